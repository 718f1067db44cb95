/- VecGroups. -/
import Derived.Test.YtbndmmfpoljeaaaGroupsF
import Derived.BigQuiet
namespace Go.Proofs.Ytbndmmfpoljeaaa
open Go.ChangeShapes Go.WideShapes Go.ChangeAt Go.RowKit
set_option linter.unusedVariables false
set_option linter.unusedSimpArgs false
set_option maxRecDepth 100000
theorem pt_cell {W : World} {base n c i : Nat} {ad : Addr} {rows : List PtR} {p : PtR} (h : PtsAt base (.slice (some ad) n c) rows W) (hp : rows[i]? = some p) :
    W.cell? (ad.add (i * 2)) = some p.sv ∧ W.cell? ⟨(ad.add (i * 2)).block, (ad.add (i * 2)).off + 1, none⟩ = some (.int .i64 p.val) ∧ OwnL W p.sv p.set := by
  obtain ⟨hi, rfl⟩ := List.getElem?_eq_some_iff.1 hp
  obtain ⟨ad2, e, h0, h1, _⟩ := h.get2 hi
  injection e with e; subst e
  exact ⟨h0, h1, h.each _ (List.getElem_mem hi)⟩
theorem vSet_names (q : KSet) (v : Int) : ∀ x ∈ vSet q v, hasS keepNames x.1 = true := fun x hx => by
  unfold vSet at hx
  rcases List.mem_append.1 hx with hx | hx
  · obtain ⟨i, hi, e⟩ := setF_names q x hx
    rw [e]
    match i, hi with
    | 0, _ => rfl
    | 1, _ => rfl
    | 2, _ => rfl
  · split at hx
    · rw [List.mem_singleton] at hx; subst hx; rfl
    · cases hx
theorem vecUp_names (k : KVec) : ∀ i, i ≤ k.qs.length → ∀ p ∈ (vecUp k i).2, ∀ x ∈ p.1, hasS keepNames x.1 = true
  | 0, _ => by simp [vecUp]
  | i + 1, hi => by
    have ih := vecUp_names k i (by omega)
    unfold vecUp
    split
    · exact ih
    · intro p hp
      rcases List.mem_append.1 hp with hp | hp
      · exact ih p hp
      · rw [List.mem_singleton] at hp; subst hp
        show ∀ x ∈ vSetAt k i, _
        unfold vSetAt; rw [dif_pos (by omega)]
        exact vSet_names _ _
theorem vecF_names (k : KVec) : ∀ p ∈ vecF k, keepL keepNames p.1 = p.1 := fun p hp => by
  unfold keepL
  exact List.filter_eq_self.2 fun x hx => vecUp_names k _ (Nat.min_le_left _ _) p hp x hx
/-- Points at hand by their rows, a vector, and all that was. -/
structure GV (w0 : World) (x : Value) (ps : List Pt) (l : List (Value × List PtR)) (W : World) : Prop where
  x : VAt ps x W
  all : ∀ y ∈ l, PtsAt 0 y.1 y.2 W
  bel : Below w0.heap.size w0 W
theorem GV.below {w0 W W' : World} {x : Value} {ps : List Pt} {l : List (Value × List PtR)} (h : GV w0 x ps l W) (hb : Below W.heap.size W W') : GV w0 x ps l W' := ⟨h.x.below hb, fun y hy => (h.all y hy).below hb, h.bel.trans (hb.mono h.bel.size)⟩
theorem GV.at {w0 W : World} {x v : Value} {ps : List Pt} {l : List (Value × List PtR)} {r : List PtR} (h : GV w0 x ps l W) (hm : (v, r) ∈ l) : PtsAt 0 v r W := h.all _ hm
theorem rows_sel {rc : List PtR} {S : List Gr} {k : Int} (h : ptsOf rc = S.map (selJ k)) {i : Nat} (hi : i < S.length) : ∃ p, rc[i]? = some p ∧ p.set = S[i].1 ∧ p.val = (selJ k S[i]).2 := by
  have hl : rc.length = S.length := by have := congrArg List.length h; rwa [ptsOf_len, List.length_map] at this
  have h1 : i < rc.length := by omega
  refine ⟨rc[i], List.getElem?_eq_getElem h1, ?_⟩
  have h2 : (ptsOf rc)[i]? = (S.map (selJ k))[i]? := by rw [h]
  unfold ptsOf at h2
  rw [List.getElem?_map, List.getElem?_eq_getElem h1, List.getElem?_map, List.getElem?_eq_getElem hi] at h2
  injection h2 with h2
  have h3 := congrArg Prod.fst h2
  have h4 := congrArg Prod.snd h2
  exact ⟨h3, h4⟩
def cS (S : List Gr) (i : Nat) : Int := sumI ((S.take i).map fun g => g.2.1)
def sS (S : List Gr) (i : Nat) : Int := sumI ((S.take i).map fun g => g.2.2.1)
theorem cS_succ {S : List Gr} {i : Nat} (h : i < S.length) : cS S (i + 1) = cS S i + S[i].2.1 := by
  unfold cS; rw [List.take_succ_eq_append_getElem h, List.map_append, sumI_app]; simp [sumI]
theorem sS_succ {S : List Gr} {i : Nat} (h : i < S.length) : sS S (i + 1) = sS S i + S[i].2.2.1 := by
  unfold sS; rw [List.take_succ_eq_append_getElem h, List.map_append, sumI_app]; simp [sumI]
theorem cS_in {S : List Gr} {ps : List Pt} (h : JOk ps S) (hn : ps.length ≤ 8) : ∀ i, i ≤ S.length → 0 ≤ cS S i ∧ cS S i ≤ 8 * i ∧ -72 * i ≤ sS S i ∧ sS S i ≤ 160 * i
  | 0, _ => by simp [cS, sS, sumI]
  | i + 1, hi => by
    obtain ⟨h1, h2, h3, h4⟩ := cS_in h hn i (by omega)
    obtain ⟨c1, cm, lo, le, hi2, sl, sh, s0, s1⟩ := h.each S[i] (List.getElem_mem _)
    rw [cS_succ (by omega), sS_succ (by omega)]
    refine ⟨?_, ?_, ?_, ?_⟩ <;> push_cast <;> omega
set_option maxHeartbeats 8000000 in
theorem vec_groups (ka : KVec) (AN : Option Addr) (nn cn : Nat) (zs : List ByteArray) (w0 : World) (ha : ka.ok w0.heap.size w0) (hns : Sees w0 w0.heap.size 1 AN nn (strs zs)) (hnn : nn ≤ cn) (hcn : cn ≤ 9223372036854775807) :
    Calls Try.prog 6 #[ka.val, .slice AN nn cn] w0 fun e w' => e = .returned (.bool true) ∧ Below w0.heap.size w0 w' := by
  have HRN := Lib.hid vec_runs
  obtain ⟨mn, hmn⟩ : ∃ q, min nn 4 = q := ⟨_, rfl⟩
  have hmz : (min (nn : Int) 4).toNat = mn := by omega
  have hm4 : mn ≤ 9223372036854775807 := by omega
  have HNS := Lib.hid (fun (V : World) (hV : Below w0.heap.size w0 V) => (((hns.take (k := mn) (by omega)).below hV).more hV.size))
  rw [show mn * 1 = mn by omega] at HNS
  have e9 : (strs zs).take mn = strs (zs.take mn) := by unfold strs; rw [List.map_take]
  rw [e9] at HNS
  have HM4 := Lib.hid hm4
  have HNM := Lib.hid (vecF_names ka)
  clear e9 hns hmn hm4
  generalize zs.take mn = ns at *
  have hpA := vecF_ok ka
  have HPA := Lib.hid hpA
  have hla := hpA.len
  have hb1 : Below w0.heap.size w0 (w0.alloc (.cells #[.slice ka.A ka.qs.length ka.c, .slice ka.A2 ka.n2 ka.c2] 37)) := (Below.refl _ _).alloc (Nat.le_refl _) _
  have HX := Lib.hid (Blk.mk (heap_alloc_new w0 (.cells #[.slice ka.A ka.qs.length ka.c, .slice ka.A2 ka.n2 ka.c2] 37)) : Blk _ w0.heap.size 37 [.slice ka.A ka.qs.length ka.c, .slice ka.A2 ka.n2 ka.c2])
  have HOK := Lib.hid (ha.below hb1)
  have HB1 := Lib.hid hb1
  obtain ⟨b3, hb3⟩ : ∃ q, w0.heap.size = q := ⟨_, rfl⟩
  obtain ⟨W0, hW0⟩ : ∃ V, w0.alloc (.cells #[.slice ka.A ka.qs.length ka.c, .slice ka.A2 ka.n2 ka.c2] 37) = V := ⟨_, rfl⟩
  rw [hW0] at HX HOK HB1
  have HX3 := Lib.hid (hb3 ▸ HX.out)
  have HEQ := Lib.hid (And.intro hb3 hW0)
  clear ha hb1 hb3 hW0 hpA HX
  unfold KVec.val
  go_enter Try.func6, Try.ntmps6
  go_upto_region 1 with fail
  rw [HEQ.out.2, HEQ.out.1]
  clear HEQ
  have x0 := HX3.out.cell 0
  have x1 := HX3.out.cell 1
  simp only [List.getElem?_cons_zero, List.getElem?_cons_succ] at x0 x1
  go_wp2_with fail
  (with_reducible refine (vec_v HOK.out HB1.out.size).mono ?_); rintro e w1 ⟨x, rfl, hva, hb⟩
  have HS0 := Lib.hid (show VS w0 [(x, vecF ka)] w1 from ⟨fun y hy => by rw [List.mem_singleton] at hy; subst hy; exact hva, HB1.out.trans (hb.mono HB1.out.size)⟩)
  clear hva hb HOK HB1 x0 x1 HX3
  generalize vecF ka = ps at *
  obtain ⟨S, hS⟩ := groupsF_of HPA.out ns
  obtain ⟨La, hga, hLa, hLf⟩ := group_all HPA.out
  have HGF := Lib.hid hS; have HGA := Lib.hid hga; have HLA := Lib.hid hLa
  have HOWN := Lib.hid (group_own HPA.out keepNames HNM.out)
  clear hS hga hLa HNM hLf
  have HFA := Lib.hid HPA.out.fine
  go_wp2_with fail
  (with_reducible refine (group_v 20 AN mn cn ns (HGF.out.r 20 (by simp)) (HNS.out _ HS0.out.bel) HM4.out (HS0.out.at (List.mem_cons_self)) (by omega) HFA.out).mono ?_); rintro e wv1 ⟨vc, rfl, hv, hb⟩
  have HS1 := Lib.hid (HS0.out.add hv hb)
  clear hv hb HS0
  go_wp2_with fail
  (with_reducible refine (group_v 17 AN mn cn ns (HGF.out.r 17 (by simp)) (HNS.out _ HS1.out.bel) HM4.out (HS1.out.at (List.mem_cons_of_mem _ (List.mem_cons_self))) (by omega) HFA.out).mono ?_); rintro e wv2 ⟨vz, rfl, hv, hb⟩
  have HS2 := Lib.hid (HS1.out.add hv hb)
  clear hv hb HS1
  go_wp2_with fail
  (with_reducible refine (group_v 18 AN mn cn ns (HGF.out.r 18 (by simp)) (HNS.out _ HS2.out.bel) HM4.out (HS2.out.at (List.mem_cons_of_mem _ (List.mem_cons_of_mem _ (List.mem_cons_self)))) (by omega) HFA.out).mono ?_); rintro e wv3 ⟨vl, rfl, hv, hb⟩
  have HS3 := Lib.hid (HS2.out.add hv hb)
  clear hv hb HS2
  go_wp2_with fail
  (with_reducible refine (group_v 19 AN mn cn ns (HGF.out.r 19 (by simp)) (HNS.out _ HS3.out.bel) HM4.out (HS3.out.at (List.mem_cons_of_mem _ (List.mem_cons_of_mem _ (List.mem_cons_of_mem _ (List.mem_cons_self))))) (by omega) HFA.out).mono ?_); rintro e wv4 ⟨vh, rfl, hv, hb⟩
  have HS4 := Lib.hid (HS3.out.add hv hb)
  clear hv hb HS3
  go_wp2_with fail
  (with_reducible refine (group_v 17 none 0 0 [] HGA.out Sees.nil (by omega) (HS4.out.at (List.mem_cons_of_mem _ (List.mem_cons_of_mem _ (List.mem_cons_of_mem _ (List.mem_cons_of_mem _ (List.mem_cons_self)))))) (by omega) HFA.out).mono ?_); rintro e wv5 ⟨va, rfl, hv, hb⟩
  have HS5 := Lib.hid (HS4.out.add hv hb)
  clear hv hb HS4
  obtain ⟨Ax, cx, rx, rfl, hlx, hqx⟩ := (HS5.out.at (List.mem_cons_of_mem _ (List.mem_cons_of_mem _ (List.mem_cons_of_mem _ (List.mem_cons_of_mem _ (List.mem_cons_of_mem _ (List.mem_cons_self)))))))
  have hnx : Hid (rx.length = (ps).length) := Lib.hid (by rw [← ptsOf_len, hlx])
  clear hlx hqx
  generalize rx.length = nx at *
  have HX := Lib.hid (show VAt ps (.slice Ax nx cx) wv5 from HS5.out.at (List.mem_cons_of_mem _ (List.mem_cons_of_mem _ (List.mem_cons_of_mem _ (List.mem_cons_of_mem _ (List.mem_cons_of_mem _ (List.mem_cons_self)))))))
  obtain ⟨Ac, cc, rc, rfl, hlc, hpc, hqc⟩ := HS5.out.at (List.mem_cons_of_mem _ (List.mem_cons_of_mem _ (List.mem_cons_of_mem _ (List.mem_cons_of_mem _ (List.mem_cons_self)))))
  have HLc := Lib.hid hlc; have HPc := Lib.hid hpc
  clear hlc hpc hqc
  have HNc : Hid (rc.length = S.length) := Lib.hid (by have h1 := congrArg List.length HLc.out; rwa [ptsOf_len, List.length_map] at h1)
  rw [HNc.out] at HPc HS5 ⊢
  clear HNc
  obtain ⟨Az, cz, rz, rfl, hlz, hpz, hqz⟩ := HS5.out.at (List.mem_cons_of_mem _ (List.mem_cons_of_mem _ (List.mem_cons_of_mem _ (List.mem_cons_self))))
  have HLz := Lib.hid hlz; have HPz := Lib.hid hpz
  clear hlz hpz hqz
  have HNz : Hid (rz.length = S.length) := Lib.hid (by have h1 := congrArg List.length HLz.out; rwa [ptsOf_len, List.length_map] at h1)
  rw [HNz.out] at HPz HS5 ⊢
  clear HNz
  obtain ⟨Al, cl, rl, rfl, hll, hpl, hql⟩ := HS5.out.at (List.mem_cons_of_mem _ (List.mem_cons_of_mem _ (List.mem_cons_self)))
  have HLl := Lib.hid hll; have HPl := Lib.hid hpl
  clear hll hpl hql
  have HNl : Hid (rl.length = S.length) := Lib.hid (by have h1 := congrArg List.length HLl.out; rwa [ptsOf_len, List.length_map] at h1)
  rw [HNl.out] at HPl HS5 ⊢
  clear HNl
  obtain ⟨Ah, ch, rh, rfl, hlh, hph, hqh⟩ := HS5.out.at (List.mem_cons_of_mem _ (List.mem_cons_self))
  have HLh := Lib.hid hlh; have HPh := Lib.hid hph
  clear hlh hph hqh
  have HNh : Hid (rh.length = S.length) := Lib.hid (by have h1 := congrArg List.length HLh.out; rwa [ptsOf_len, List.length_map] at h1)
  rw [HNh.out] at HPh HS5 ⊢
  clear HNh
  obtain ⟨Aa, ca, ra, rfl, hla, hpa, hqa⟩ := HS5.out.at (List.mem_cons_self)
  have HLa := Lib.hid hla; have HPa := Lib.hid hpa
  clear hla hpa hqa
  obtain ⟨n, hn⟩ : ∃ n, S.length = n := ⟨_, rfl⟩
  have HN := Lib.hid hn
  have hn8 : n ≤ 8 := by have := HGF.out.ok.len; omega
  rw [hn] at HPc HPz HPl HPh ⊢
  have hx8 : nx ≤ 8 := by have := hnx.out; omega
  have HG := Lib.hid (show GV w0 (.slice Ax nx cx) ps [(.slice Ac n cc, rc), (.slice Az n cz, rz), (.slice Al n cl, rl), (.slice Ah n ch, rh), (.slice Aa ra.length ca, ra)] wv5 from ⟨HX.out, fun y hy => by
    simp only [List.mem_cons, List.not_mem_nil, or_false] at hy
    rcases hy with rfl | rfl | rfl | rfl | rfl
    · exact HPc.out
    · exact HPz.out
    · exact HPl.out
    · exact HPh.out
    · exact HPa.out, HS5.out.bel⟩)
  clear HS5 HX HPc HPz HPl HPh HPa hn hla
  go_wp2_with fail
  go_loopg [17, 18, 99] n (fun g x17 x18 x99 wr => ∃ i : Nat, i + g = n ∧ x17 = .int .i64 (cS S i) ∧ x18 = .int .i64 (sS S i) ∧ x99 = .int .i64 i ∧ GV w0 (.slice Ax nx cx) ps [(.slice Ac n cc, rc), (.slice Az n cz, rz), (.slice Al n cl, rl), (.slice Ah n ch, rh), (.slice Aa ra.length ca, ra)] wr)
  case atStart => exact ⟨0, by omega, rfl, rfl, rfl, HG.out⟩
  case round =>
    obtain ⟨i, hig, rfl, rfl, rfl, hgv⟩ := hrel
    have HGV := Lib.hid hgv
    clear hgv HG
    have hin := HN.out
    obtain ⟨b1, b2, b3, b4⟩ := cS_in HGF.out.ok (by have := hnx.out; omega) i (by omega)
    clear hin
    cases gk with
    | succ gq =>
      have HIG := Lib.hid hig
      have hi : i < S.length := by rw [HN.out]; omega
      obtain ⟨c1, cm, lo, le, hi2, sl, sh, s0, s1⟩ := HGF.out.ok.each S[i] (List.getElem_mem hi)
      obtain ⟨pc, hc1, hc2, hc3⟩ := rows_sel HLc.out hi
      obtain ⟨pz, hz1, hz2, hz3⟩ := rows_sel HLz.out hi
      obtain ⟨pl, hl1, hl2, hl3⟩ := rows_sel HLl.out hi
      obtain ⟨ph, hh1, hh2, hh3⟩ := rows_sel HLh.out hi
      replace hc3 : pc.val = S[i].2.1 := hc3
      replace hz3 : pz.val = S[i].2.2.1 := hz3
      replace hl3 : pl.val = S[i].2.2.2.1 := hl3
      replace hh3 : ph.val = S[i].2.2.2.2 := hh3
      have HZS := Lib.hid (hc2.trans hz2.symm)
      have HFW : Hid (pc.set.length ≤ 1000) := Lib.hid (by rw [hc2]; exact HGF.out.ok.few _ (List.getElem_mem hi))
      have HCS := Lib.hid (cS_succ hi); have HSS := Lib.hid (sS_succ hi)
      rw [← hc3] at HCS c1 cm sl sh s0 s1
      rw [← hz3] at HSS sl sh s0 s1
      rw [← hl3] at sl lo le
      rw [← hh3] at sh le hi2
      have hml : -1000 ≤ pc.val * pl.val ∧ pc.val * pl.val ≤ pz.val := ⟨by
        have h1 := Int.mul_le_mul_of_nonneg_left (show -9 ≤ pl.val from lo) (show 0 ≤ pc.val by omega)
        have := hx8; have := hnx.out; omega, sl⟩
      have hmh : pz.val ≤ pc.val * ph.val ∧ pc.val * ph.val ≤ 1000 := ⟨sh, by
        have h1 := Int.mul_le_mul_of_nonneg_left hi2 (show 0 ≤ pc.val by omega)
        have := hx8; have := hnx.out; omega⟩
      have hpz : -1000 ≤ pz.val ∧ pz.val ≤ 1000 := by have := hx8; have := hnx.out; omega
      have hpc : 0 ≤ pc.val ∧ pc.val ≤ 8 := by have := hx8; have := hnx.out; omega
      have Hc := Lib.hid hc1; have Hz := Lib.hid hz1; have Hl := Lib.hid hl1; have Hh := Lib.hid hh1
      obtain ⟨ac, hA, q1, q2, q3⟩ := (HGV.out.at (List.mem_cons_self)).get2 (k := i) (List.getElem?_eq_some_iff.1 Hc.out).1
      clear q1 q2 q3; subst hA
      obtain ⟨az, hA, q1, q2, q3⟩ := (HGV.out.at (List.mem_cons_of_mem _ (List.mem_cons_self))).get2 (k := i) (List.getElem?_eq_some_iff.1 Hz.out).1
      clear q1 q2 q3; subst hA
      obtain ⟨al, hA, q1, q2, q3⟩ := (HGV.out.at (List.mem_cons_of_mem _ (List.mem_cons_of_mem _ (List.mem_cons_self)))).get2 (k := i) (List.getElem?_eq_some_iff.1 Hl.out).1
      clear q1 q2 q3; subst hA
      obtain ⟨ah, hA, q1, q2, q3⟩ := (HGV.out.at (List.mem_cons_of_mem _ (List.mem_cons_of_mem _ (List.mem_cons_of_mem _ (List.mem_cons_self))))).get2 (k := i) (List.getElem?_eq_some_iff.1 Hh.out).1
      clear q1 q2 q3; subst hA
      clear hc1 hc2 hc3 hz1 hz2 hz3 hl1 hl2 hl3 hh1 hh2 hh3 c1 cm lo hi2 sl sh s0 s1
      have hib : ¬ n ≤ i := by omega
      have hqb : (i : Int) < n := by omega
      have hqb2 : i < n := by omega
      have hqb3 : (0 : Int) ≤ i := by omega
      obtain ⟨y0, y1, y2⟩ := pt_cell (HGV.out.at (List.mem_cons_self)) Hc.out
      obtain ⟨z0, z1, z2⟩ := pt_cell (HGV.out.at (List.mem_cons_of_mem _ (List.mem_cons_self))) Hz.out
      clear y0 y2 z0 z2
      have hw1 : IntKind.i64.wrap (cS S i + pc.val) = cS S i + pc.val := by rw [IntKind.wrap_i64]; omega
      have hw2 : IntKind.i64.wrap (sS S i + pz.val) = sS S i + pz.val := by rw [IntKind.wrap_i64]; omega
      clear hig
      go_upto_region 14 with fail
      go_quiet (fail)
      go_upto_region 15 with fail
      have hw3 : IntKind.i64.wrap (pc.val * pl.val) = pc.val * pl.val := by rw [IntKind.wrap_i64]; omega
      have hw4 : IntKind.i64.wrap (pc.val * ph.val) = pc.val * ph.val := by rw [IntKind.wrap_i64]; omega
      have hml2 := hml.2; have hmh1 := hmh.1
      have HSM := Lib.hid (fun V (hV : GV w0 (.slice Ax nx cx) ps [(.slice (some ac) n cc, rc), (.slice (some az) n cz, rz), (.slice (some al) n cl, rl), (.slice (some ah) n ch, rh), (.slice Aa ra.length ca, ra)] V) => show Calls Try.prog 26 #[pc.sv, pz.sv] V fun e w' => e = .returned (.bool true) ∧ Below V.heap.size V w' from by
        have h := same_h (pt_cell (hV.at (List.mem_cons_self)) Hc.out).2.2.hasL (pt_cell (hV.at (List.mem_cons_of_mem _ (List.mem_cons_self))) Hz.out).2.2.hasL HFW.out (by rw [← HZS.out]; exact HFW.out)
        rw [decide_eq_true HZS.out] at h
        exact h.mono fun e w' hh => ⟨hh.1, by obtain ⟨m, rfl⟩ := hh.2; exact below_drewN2 (Below.refl _ _) _⟩)
      clear hw1 hw2 y1 z1
      refine wp_region_facts (R := fun a b => Below a.heap.size a b) (G := (fun W => GV w0 (.slice Ax nx cx) ps [(.slice (some ac) n cc, rc), (.slice (some az) n cz, rz), (.slice (some al) n cl, rl), (.slice (some ah) n ch, rh), (.slice Aa ra.length ca, ra)] W)) (V := fun i' u' W => match i' with | 0 => u' = .slice (some al) n cl | 1 => u' = .int .i64 i | 2 => u' = .pointer (some (al.add (i * 2))) | 3 => u' = .pointer (some ⟨(al.add (i * 2)).block, (al.add (i * 2)).off + 1, none⟩) | 4 => u' = .int .i64 pl.val | 5 => u' = .slice (some ah) n ch | 6 => u' = .int .i64 i | 7 => u' = .pointer (some (ah.add (i * 2))) | 8 => u' = .pointer (some ⟨(ah.add (i * 2)).block, (ah.add (i * 2)).off + 1, none⟩) | 9 => u' = .int .i64 ph.val | 10 => u' = .bool false | 11 => u' = .bool false | 12 => u' = .slice (some az) n cz | 13 => u' = .int .i64 i | 14 => u' = .pointer (some (az.add (i * 2))) | 15 => u' = .pointer (some ⟨(az.add (i * 2)).block, (az.add (i * 2)).off + 1, none⟩) | 16 => u' = .int .i64 pz.val | 17 => u' = .slice (some ac) n cc | 18 => u' = .int .i64 i | 19 => u' = .pointer (some (ac.add (i * 2))) | 20 => u' = .pointer (some ⟨(ac.add (i * 2)).block, (ac.add (i * 2)).off + 1, none⟩) | 21 => u' = .int .i64 pc.val | 22 => u' = .slice (some al) n cl | 23 => u' = .int .i64 i | 24 => u' = .pointer (some (al.add (i * 2))) | 25 => u' = .pointer (some ⟨(al.add (i * 2)).block, (al.add (i * 2)).off + 1, none⟩) | 26 => u' = .int .i64 pl.val | 27 => u' = .int .i64 (pc.val * pl.val) | 28 => u' = .bool false | 29 => u' = .bool false | 30 => u' = .bool false | 31 => u' = .slice (some az) n cz | 32 => u' = .int .i64 i | 33 => u' = .pointer (some (az.add (i * 2))) | 34 => u' = .pointer (some ⟨(az.add (i * 2)).block, (az.add (i * 2)).off + 1, none⟩) | 35 => u' = .int .i64 pz.val | 36 => u' = .slice (some ac) n cc | 37 => u' = .int .i64 i | 38 => u' = .pointer (some (ac.add (i * 2))) | 39 => u' = .pointer (some ⟨(ac.add (i * 2)).block, (ac.add (i * 2)).off + 1, none⟩) | 40 => u' = .int .i64 pc.val | 41 => u' = .slice (some ah) n ch | 42 => u' = .int .i64 i | 43 => u' = .pointer (some (ah.add (i * 2))) | 44 => u' = .pointer (some ⟨(ah.add (i * 2)).block, (ah.add (i * 2)).off + 1, none⟩) | 45 => u' = .int .i64 ph.val | 46 => u' = .int .i64 (pc.val * ph.val) | 47 => u' = .bool false | 48 => u' = .bool false | 49 => u' = .bool false | 50 => u' = .slice (some ac) n cc | 51 => u' = .int .i64 i | 52 => u' = .pointer (some (ac.add (i * 2))) | 53 => u' = .pointer (some (ac.add (i * 2))) | 54 => u' = pc.sv | 55 => u' = .slice (some az) n cz | 56 => u' = .int .i64 i | 57 => u' = .pointer (some (az.add (i * 2))) | 58 => u' = .pointer (some (az.add (i * 2))) | 59 => u' = pz.sv | 60 => u' = .bool true | 61 => u' = .bool false | 62 => u' = .bool false | _ => True) (by kernel_rfl) (fun w => Below.refl _ _) (fun a b c h1 h2 => h1.trans (h2.mono h1.size)) (by kernel_rfl) (by kernel_rfl) ?hG ⟨?o0, ?o1, ?o2, ?o3, ?o4, ?o5, ?o6, ?o7, ?o8, ?o9, ?o10, ?o11, ?o12, ?o13, ?o14, ?o15, ?o16, ?o17, ?o18, ?o19, ?o20, ?o21, ?o22, ?o23, ?o24, ?o25, ?o26, ?o27, ?o28, ?o29, ?o30, ?o31, ?o32, ?o33, ?o34, ?o35, ?o36, ?o37, ?o38, ?o39, ?o40, ?o41, ?o42, ?o43, ?o44, ?o45, ?o46, ?o47, ?o48, ?o49, ?o50, ?o51, ?o52, ?o53, ?o54, ?o55, ?o56, ?o57, ?o58, ?o59, ?o60, ?o61, ?o62, trivial⟩ ?hend
      case o0 =>
        intro a w hfr hG hd
        refine ⟨fun hw => ?_, fun hw => absurd hw (by simp [Region.wanted])⟩
        have s11 : a.tmps.getD 11 undef = .slice (some al) n cl := hfr.at 11 (by kernel_rfl)
        refine op_yields (.slice (some al) n cl) ?_ ?_ ?_
        · simp only [execOp, resolve, List.map_toArray, List.map_cons, List.map_nil, Act.eval, s11]; simp [go_sem, -Array.getD_eq_getD_getElem?, s11]
        · exact Below.refl _ _
        · exact (fun _ _ => rfl)
      case o1 =>
        intro a w hfr hG hd
        refine ⟨fun hw => ?_, fun hw => absurd hw (by simp [Region.wanted])⟩
        have s19 : a.tmps.getD 19 undef = .int .i64 i := hfr.at 19 (by kernel_rfl)
        refine op_yields (.int .i64 i) ?_ ?_ ?_
        · simp only [execOp, resolve, List.map_toArray, List.map_cons, List.map_nil, Act.eval, s19]; simp [go_sem, -Array.getD_eq_getD_getElem?, s19]
        · exact Below.refl _ _
        · exact (fun _ _ => rfl)
      case o2 =>
        intro a w hfr hG hd
        obtain ⟨d0, d1, _⟩ := hd
        refine ⟨fun hw => ?_, fun hw => absurd hw (by simp [Region.wanted])⟩
        have s116 : a.tmps.getD 116 undef = .slice (some al) n cl := (d0 rfl).now
        have s117 : a.tmps.getD 117 undef = .int .i64 i := (d1 rfl).now
        refine op_yields (.pointer (some (al.add (i * 2)))) ?_ ?_ ?_
        · simp only [execOp, resolve, List.map_toArray, List.map_cons, List.map_nil, Act.eval, s116, s117]; simp [go_sem, -Array.getD_eq_getD_getElem?, s116, s117, hib]
        · exact Below.refl _ _
        · exact (fun _ _ => rfl)
      case o3 =>
        intro a w hfr hG hd
        obtain ⟨d0, _⟩ := hd
        refine ⟨fun hw => ?_, fun hw => absurd hw (by simp [Region.wanted])⟩
        have s118 : a.tmps.getD 118 undef = .pointer (some (al.add (i * 2))) := (d0 rfl).now
        refine op_yields (.pointer (some ⟨(al.add (i * 2)).block, (al.add (i * 2)).off + 1, none⟩)) ?_ ?_ ?_
        · simp only [execOp, resolve, List.map_toArray, List.map_cons, List.map_nil, Act.eval, s118]; simp [go_sem, -Array.getD_eq_getD_getElem?, s118]
        · exact Below.refl _ _
        · exact (fun _ _ => rfl)
      case o4 =>
        intro a w hfr hG hd
        obtain ⟨d0, _⟩ := hd
        refine ⟨fun hw => ?_, fun hw => absurd hw (by simp [Region.wanted])⟩
        have s119 : a.tmps.getD 119 undef = .pointer (some ⟨(al.add (i * 2)).block, (al.add (i * 2)).off + 1, none⟩) := (d0 rfl).now
        obtain ⟨z0, z1, z2⟩ := pt_cell (hG.now.at (List.mem_cons_of_mem _ (List.mem_cons_of_mem _ (List.mem_cons_self)))) Hl.out
        refine op_yields (.int .i64 pl.val) ?_ ?_ ?_
        · simp only [execOp, resolve, List.map_toArray, List.map_cons, List.map_nil, Act.eval, s119]; simp [go_sem, -Array.getD_eq_getD_getElem?, s119, z1]
        · exact Below.refl _ _
        · exact (fun _ _ => rfl)
      case o5 =>
        intro a w hfr hG hd
        refine ⟨fun hw => ?_, fun hw => absurd hw (by simp [Region.wanted])⟩
        have s13 : a.tmps.getD 13 undef = .slice (some ah) n ch := hfr.at 13 (by kernel_rfl)
        refine op_yields (.slice (some ah) n ch) ?_ ?_ ?_
        · simp only [execOp, resolve, List.map_toArray, List.map_cons, List.map_nil, Act.eval, s13]; simp [go_sem, -Array.getD_eq_getD_getElem?, s13]
        · exact Below.refl _ _
        · exact (fun _ _ => rfl)
      case o6 =>
        intro a w hfr hG hd
        refine ⟨fun hw => ?_, fun hw => absurd hw (by simp [Region.wanted])⟩
        have s19 : a.tmps.getD 19 undef = .int .i64 i := hfr.at 19 (by kernel_rfl)
        refine op_yields (.int .i64 i) ?_ ?_ ?_
        · simp only [execOp, resolve, List.map_toArray, List.map_cons, List.map_nil, Act.eval, s19]; simp [go_sem, -Array.getD_eq_getD_getElem?, s19]
        · exact Below.refl _ _
        · exact (fun _ _ => rfl)
      case o7 =>
        intro a w hfr hG hd
        obtain ⟨d0, d1, _⟩ := hd
        refine ⟨fun hw => ?_, fun hw => absurd hw (by simp [Region.wanted])⟩
        have s121 : a.tmps.getD 121 undef = .slice (some ah) n ch := (d0 rfl).now
        have s122 : a.tmps.getD 122 undef = .int .i64 i := (d1 rfl).now
        refine op_yields (.pointer (some (ah.add (i * 2)))) ?_ ?_ ?_
        · simp only [execOp, resolve, List.map_toArray, List.map_cons, List.map_nil, Act.eval, s121, s122]; simp [go_sem, -Array.getD_eq_getD_getElem?, s121, s122, hib]
        · exact Below.refl _ _
        · exact (fun _ _ => rfl)
      case o8 =>
        intro a w hfr hG hd
        obtain ⟨d0, _⟩ := hd
        refine ⟨fun hw => ?_, fun hw => absurd hw (by simp [Region.wanted])⟩
        have s123 : a.tmps.getD 123 undef = .pointer (some (ah.add (i * 2))) := (d0 rfl).now
        refine op_yields (.pointer (some ⟨(ah.add (i * 2)).block, (ah.add (i * 2)).off + 1, none⟩)) ?_ ?_ ?_
        · simp only [execOp, resolve, List.map_toArray, List.map_cons, List.map_nil, Act.eval, s123]; simp [go_sem, -Array.getD_eq_getD_getElem?, s123]
        · exact Below.refl _ _
        · exact (fun _ _ => rfl)
      case o9 =>
        intro a w hfr hG hd
        obtain ⟨d0, _⟩ := hd
        refine ⟨fun hw => ?_, fun hw => absurd hw (by simp [Region.wanted])⟩
        have s124 : a.tmps.getD 124 undef = .pointer (some ⟨(ah.add (i * 2)).block, (ah.add (i * 2)).off + 1, none⟩) := (d0 rfl).now
        obtain ⟨z0, z1, z2⟩ := pt_cell (hG.now.at (List.mem_cons_of_mem _ (List.mem_cons_of_mem _ (List.mem_cons_of_mem _ (List.mem_cons_self))))) Hh.out
        refine op_yields (.int .i64 ph.val) ?_ ?_ ?_
        · simp only [execOp, resolve, List.map_toArray, List.map_cons, List.map_nil, Act.eval, s124]; simp [go_sem, -Array.getD_eq_getD_getElem?, s124, z1]
        · exact Below.refl _ _
        · exact (fun _ _ => rfl)
      case o10 =>
        intro a w hfr hG hd
        obtain ⟨d0, d1, _⟩ := hd
        refine ⟨fun hw => ?_, fun hw => absurd hw (by simp [Region.wanted])⟩
        have s120 : a.tmps.getD 120 undef = .int .i64 pl.val := (d0 rfl).now
        have s125 : a.tmps.getD 125 undef = .int .i64 ph.val := (d1 rfl).now
        refine op_yields (.bool false) ?_ ?_ ?_
        · simp only [execOp, resolve, List.map_toArray, List.map_cons, List.map_nil, Act.eval, s120, s125]; simp [go_sem, -Array.getD_eq_getD_getElem?, s120, s125, le]
        · exact Below.refl _ _
        · exact (fun _ _ => rfl)
      case o11 =>
        intro a w hfr hG hd
        obtain ⟨d0, _⟩ := hd
        refine ⟨fun hw => ?_, fun hw => absurd hw (by simp [Region.wanted])⟩
        have s126 : a.tmps.getD 126 undef = .bool false := (d0 rfl).now
        refine op_yields (.bool false) ?_ ?_ ?_
        · simp only [execOp, resolve, List.map_toArray, List.map_cons, List.map_nil, Act.eval, s126]; simp [go_sem, -Array.getD_eq_getD_getElem?, s126]
        · exact Below.refl _ _
        · exact (fun _ _ => rfl)
      case o12 =>
        intro a w hfr hG hd
        obtain ⟨d0, _⟩ := hd
        have sg : a.tmps.getD 127 undef = .bool false := (d0 rfl).now
        refine ⟨fun hw => ?_, fun hw => by rw [wanted_of rfl (yielded_of rfl sg)] at hw; exact absurd hw (by decide)⟩
        have s9 : a.tmps.getD 9 undef = .slice (some az) n cz := hfr.at 9 (by kernel_rfl)
        refine op_yields (.slice (some az) n cz) ?_ ?_ ?_
        · simp only [execOp, resolve, List.map_toArray, List.map_cons, List.map_nil, Act.eval, s9]; simp [go_sem, -Array.getD_eq_getD_getElem?, s9]
        · exact Below.refl _ _
        · exact (fun _ _ => rfl)
      case o13 =>
        intro a w hfr hG hd
        obtain ⟨d0, _⟩ := hd
        have sg : a.tmps.getD 127 undef = .bool false := (d0 rfl).now
        refine ⟨fun hw => ?_, fun hw => by rw [wanted_of rfl (yielded_of rfl sg)] at hw; exact absurd hw (by decide)⟩
        have s19 : a.tmps.getD 19 undef = .int .i64 i := hfr.at 19 (by kernel_rfl)
        refine op_yields (.int .i64 i) ?_ ?_ ?_
        · simp only [execOp, resolve, List.map_toArray, List.map_cons, List.map_nil, Act.eval, s19]; simp [go_sem, -Array.getD_eq_getD_getElem?, s19]
        · exact Below.refl _ _
        · exact (fun _ _ => rfl)
      case o14 =>
        intro a w hfr hG hd
        obtain ⟨d0, d1, d2, _⟩ := hd
        have sg : a.tmps.getD 127 undef = .bool false := (d2 rfl).now
        refine ⟨fun hw => ?_, fun hw => by rw [wanted_of rfl (yielded_of rfl sg)] at hw; exact absurd hw (by decide)⟩
        have s128 : a.tmps.getD 128 undef = .slice (some az) n cz := (d0 rfl).now
        have s129 : a.tmps.getD 129 undef = .int .i64 i := (d1 rfl).now
        refine op_yields (.pointer (some (az.add (i * 2)))) ?_ ?_ ?_
        · simp only [execOp, resolve, List.map_toArray, List.map_cons, List.map_nil, Act.eval, s128, s129]; simp [go_sem, -Array.getD_eq_getD_getElem?, s128, s129, hib]
        · exact Below.refl _ _
        · exact (fun _ _ => rfl)
      case o15 =>
        intro a w hfr hG hd
        obtain ⟨d0, d1, _⟩ := hd
        have sg : a.tmps.getD 127 undef = .bool false := (d1 rfl).now
        refine ⟨fun hw => ?_, fun hw => by rw [wanted_of rfl (yielded_of rfl sg)] at hw; exact absurd hw (by decide)⟩
        have s130 : a.tmps.getD 130 undef = .pointer (some (az.add (i * 2))) := (d0 rfl).now
        refine op_yields (.pointer (some ⟨(az.add (i * 2)).block, (az.add (i * 2)).off + 1, none⟩)) ?_ ?_ ?_
        · simp only [execOp, resolve, List.map_toArray, List.map_cons, List.map_nil, Act.eval, s130]; simp [go_sem, -Array.getD_eq_getD_getElem?, s130]
        · exact Below.refl _ _
        · exact (fun _ _ => rfl)
      case o16 =>
        intro a w hfr hG hd
        obtain ⟨d0, d1, _⟩ := hd
        have sg : a.tmps.getD 127 undef = .bool false := (d1 rfl).now
        refine ⟨fun hw => ?_, fun hw => by rw [wanted_of rfl (yielded_of rfl sg)] at hw; exact absurd hw (by decide)⟩
        have s131 : a.tmps.getD 131 undef = .pointer (some ⟨(az.add (i * 2)).block, (az.add (i * 2)).off + 1, none⟩) := (d0 rfl).now
        obtain ⟨z0, z1, z2⟩ := pt_cell (hG.now.at (List.mem_cons_of_mem _ (List.mem_cons_self))) Hz.out
        refine op_yields (.int .i64 pz.val) ?_ ?_ ?_
        · simp only [execOp, resolve, List.map_toArray, List.map_cons, List.map_nil, Act.eval, s131]; simp [go_sem, -Array.getD_eq_getD_getElem?, s131, z1]
        · exact Below.refl _ _
        · exact (fun _ _ => rfl)
      case o17 =>
        intro a w hfr hG hd
        obtain ⟨d0, _⟩ := hd
        have sg : a.tmps.getD 127 undef = .bool false := (d0 rfl).now
        refine ⟨fun hw => ?_, fun hw => by rw [wanted_of rfl (yielded_of rfl sg)] at hw; exact absurd hw (by decide)⟩
        have s7 : a.tmps.getD 7 undef = .slice (some ac) n cc := hfr.at 7 (by kernel_rfl)
        refine op_yields (.slice (some ac) n cc) ?_ ?_ ?_
        · simp only [execOp, resolve, List.map_toArray, List.map_cons, List.map_nil, Act.eval, s7]; simp [go_sem, -Array.getD_eq_getD_getElem?, s7]
        · exact Below.refl _ _
        · exact (fun _ _ => rfl)
      case o18 =>
        intro a w hfr hG hd
        obtain ⟨d0, _⟩ := hd
        have sg : a.tmps.getD 127 undef = .bool false := (d0 rfl).now
        refine ⟨fun hw => ?_, fun hw => by rw [wanted_of rfl (yielded_of rfl sg)] at hw; exact absurd hw (by decide)⟩
        have s19 : a.tmps.getD 19 undef = .int .i64 i := hfr.at 19 (by kernel_rfl)
        refine op_yields (.int .i64 i) ?_ ?_ ?_
        · simp only [execOp, resolve, List.map_toArray, List.map_cons, List.map_nil, Act.eval, s19]; simp [go_sem, -Array.getD_eq_getD_getElem?, s19]
        · exact Below.refl _ _
        · exact (fun _ _ => rfl)
      case o19 =>
        intro a w hfr hG hd
        obtain ⟨d0, d1, d2, _⟩ := hd
        have sg : a.tmps.getD 127 undef = .bool false := (d2 rfl).now
        refine ⟨fun hw => ?_, fun hw => by rw [wanted_of rfl (yielded_of rfl sg)] at hw; exact absurd hw (by decide)⟩
        have s133 : a.tmps.getD 133 undef = .slice (some ac) n cc := (d0 rfl).now
        have s134 : a.tmps.getD 134 undef = .int .i64 i := (d1 rfl).now
        refine op_yields (.pointer (some (ac.add (i * 2)))) ?_ ?_ ?_
        · simp only [execOp, resolve, List.map_toArray, List.map_cons, List.map_nil, Act.eval, s133, s134]; simp [go_sem, -Array.getD_eq_getD_getElem?, s133, s134, hib]
        · exact Below.refl _ _
        · exact (fun _ _ => rfl)
      case o20 =>
        intro a w hfr hG hd
        obtain ⟨d0, d1, _⟩ := hd
        have sg : a.tmps.getD 127 undef = .bool false := (d1 rfl).now
        refine ⟨fun hw => ?_, fun hw => by rw [wanted_of rfl (yielded_of rfl sg)] at hw; exact absurd hw (by decide)⟩
        have s135 : a.tmps.getD 135 undef = .pointer (some (ac.add (i * 2))) := (d0 rfl).now
        refine op_yields (.pointer (some ⟨(ac.add (i * 2)).block, (ac.add (i * 2)).off + 1, none⟩)) ?_ ?_ ?_
        · simp only [execOp, resolve, List.map_toArray, List.map_cons, List.map_nil, Act.eval, s135]; simp [go_sem, -Array.getD_eq_getD_getElem?, s135]
        · exact Below.refl _ _
        · exact (fun _ _ => rfl)
      case o21 =>
        intro a w hfr hG hd
        obtain ⟨d0, d1, _⟩ := hd
        have sg : a.tmps.getD 127 undef = .bool false := (d1 rfl).now
        refine ⟨fun hw => ?_, fun hw => by rw [wanted_of rfl (yielded_of rfl sg)] at hw; exact absurd hw (by decide)⟩
        have s136 : a.tmps.getD 136 undef = .pointer (some ⟨(ac.add (i * 2)).block, (ac.add (i * 2)).off + 1, none⟩) := (d0 rfl).now
        obtain ⟨z0, z1, z2⟩ := pt_cell (hG.now.at (List.mem_cons_self)) Hc.out
        refine op_yields (.int .i64 pc.val) ?_ ?_ ?_
        · simp only [execOp, resolve, List.map_toArray, List.map_cons, List.map_nil, Act.eval, s136]; simp [go_sem, -Array.getD_eq_getD_getElem?, s136, z1]
        · exact Below.refl _ _
        · exact (fun _ _ => rfl)
      case o22 =>
        intro a w hfr hG hd
        obtain ⟨d0, _⟩ := hd
        have sg : a.tmps.getD 127 undef = .bool false := (d0 rfl).now
        refine ⟨fun hw => ?_, fun hw => by rw [wanted_of rfl (yielded_of rfl sg)] at hw; exact absurd hw (by decide)⟩
        have s11 : a.tmps.getD 11 undef = .slice (some al) n cl := hfr.at 11 (by kernel_rfl)
        refine op_yields (.slice (some al) n cl) ?_ ?_ ?_
        · simp only [execOp, resolve, List.map_toArray, List.map_cons, List.map_nil, Act.eval, s11]; simp [go_sem, -Array.getD_eq_getD_getElem?, s11]
        · exact Below.refl _ _
        · exact (fun _ _ => rfl)
      case o23 =>
        intro a w hfr hG hd
        obtain ⟨d0, _⟩ := hd
        have sg : a.tmps.getD 127 undef = .bool false := (d0 rfl).now
        refine ⟨fun hw => ?_, fun hw => by rw [wanted_of rfl (yielded_of rfl sg)] at hw; exact absurd hw (by decide)⟩
        have s19 : a.tmps.getD 19 undef = .int .i64 i := hfr.at 19 (by kernel_rfl)
        refine op_yields (.int .i64 i) ?_ ?_ ?_
        · simp only [execOp, resolve, List.map_toArray, List.map_cons, List.map_nil, Act.eval, s19]; simp [go_sem, -Array.getD_eq_getD_getElem?, s19]
        · exact Below.refl _ _
        · exact (fun _ _ => rfl)
      case o24 =>
        intro a w hfr hG hd
        obtain ⟨d0, d1, d2, _⟩ := hd
        have sg : a.tmps.getD 127 undef = .bool false := (d2 rfl).now
        refine ⟨fun hw => ?_, fun hw => by rw [wanted_of rfl (yielded_of rfl sg)] at hw; exact absurd hw (by decide)⟩
        have s138 : a.tmps.getD 138 undef = .slice (some al) n cl := (d0 rfl).now
        have s139 : a.tmps.getD 139 undef = .int .i64 i := (d1 rfl).now
        refine op_yields (.pointer (some (al.add (i * 2)))) ?_ ?_ ?_
        · simp only [execOp, resolve, List.map_toArray, List.map_cons, List.map_nil, Act.eval, s138, s139]; simp [go_sem, -Array.getD_eq_getD_getElem?, s138, s139, hib]
        · exact Below.refl _ _
        · exact (fun _ _ => rfl)
      case o25 =>
        intro a w hfr hG hd
        obtain ⟨d0, d1, _⟩ := hd
        have sg : a.tmps.getD 127 undef = .bool false := (d1 rfl).now
        refine ⟨fun hw => ?_, fun hw => by rw [wanted_of rfl (yielded_of rfl sg)] at hw; exact absurd hw (by decide)⟩
        have s140 : a.tmps.getD 140 undef = .pointer (some (al.add (i * 2))) := (d0 rfl).now
        refine op_yields (.pointer (some ⟨(al.add (i * 2)).block, (al.add (i * 2)).off + 1, none⟩)) ?_ ?_ ?_
        · simp only [execOp, resolve, List.map_toArray, List.map_cons, List.map_nil, Act.eval, s140]; simp [go_sem, -Array.getD_eq_getD_getElem?, s140]
        · exact Below.refl _ _
        · exact (fun _ _ => rfl)
      case o26 =>
        intro a w hfr hG hd
        obtain ⟨d0, d1, _⟩ := hd
        have sg : a.tmps.getD 127 undef = .bool false := (d1 rfl).now
        refine ⟨fun hw => ?_, fun hw => by rw [wanted_of rfl (yielded_of rfl sg)] at hw; exact absurd hw (by decide)⟩
        have s141 : a.tmps.getD 141 undef = .pointer (some ⟨(al.add (i * 2)).block, (al.add (i * 2)).off + 1, none⟩) := (d0 rfl).now
        obtain ⟨z0, z1, z2⟩ := pt_cell (hG.now.at (List.mem_cons_of_mem _ (List.mem_cons_of_mem _ (List.mem_cons_self)))) Hl.out
        refine op_yields (.int .i64 pl.val) ?_ ?_ ?_
        · simp only [execOp, resolve, List.map_toArray, List.map_cons, List.map_nil, Act.eval, s141]; simp [go_sem, -Array.getD_eq_getD_getElem?, s141, z1]
        · exact Below.refl _ _
        · exact (fun _ _ => rfl)
      case o27 =>
        intro a w hfr hG hd
        obtain ⟨d0, d1, d2, _⟩ := hd
        have sg : a.tmps.getD 127 undef = .bool false := (d2 rfl).now
        refine ⟨fun hw => ?_, fun hw => by rw [wanted_of rfl (yielded_of rfl sg)] at hw; exact absurd hw (by decide)⟩
        have s137 : a.tmps.getD 137 undef = .int .i64 pc.val := (d0 rfl).now
        have s142 : a.tmps.getD 142 undef = .int .i64 pl.val := (d1 rfl).now
        refine op_yields (.int .i64 (pc.val * pl.val)) ?_ ?_ ?_
        · simp only [execOp, resolve, List.map_toArray, List.map_cons, List.map_nil, Act.eval, s137, s142]; simp [go_sem, -Array.getD_eq_getD_getElem?, s137, s142, hw3]
        · exact Below.refl _ _
        · exact (fun _ _ => rfl)
      case o28 =>
        intro a w hfr hG hd
        obtain ⟨d0, d1, d2, _⟩ := hd
        have sg : a.tmps.getD 127 undef = .bool false := (d2 rfl).now
        refine ⟨fun hw => ?_, fun hw => by rw [wanted_of rfl (yielded_of rfl sg)] at hw; exact absurd hw (by decide)⟩
        have s132 : a.tmps.getD 132 undef = .int .i64 pz.val := (d0 rfl).now
        have s143 : a.tmps.getD 143 undef = .int .i64 (pc.val * pl.val) := (d1 rfl).now
        refine op_yields (.bool false) ?_ ?_ ?_
        · simp only [execOp, resolve, List.map_toArray, List.map_cons, List.map_nil, Act.eval, s132, s143]; simp [go_sem, -Array.getD_eq_getD_getElem?, s132, s143, hml2]
        · exact Below.refl _ _
        · exact (fun _ _ => rfl)
      case o29 =>
        intro a w hfr hG hd
        obtain ⟨d0, d1, _⟩ := hd
        refine ⟨fun hw => ?_, fun hw => absurd hw (by simp [Region.wanted])⟩
        have s127 : a.tmps.getD 127 undef = .bool false := (d0 rfl).now
        have s144 : a.tmps.getD 144 undef = .bool false := (d1 rfl).now
        refine op_yields (.bool false) ?_ ?_ ?_
        · simp only [execOp, resolve, List.map_toArray, List.map_cons, List.map_nil, Act.eval, s127, s144]; simp [go_sem, -Array.getD_eq_getD_getElem?, s127, s144]
        · exact Below.refl _ _
        · exact (fun _ _ => rfl)
      case o30 =>
        intro a w hfr hG hd
        obtain ⟨d0, d1, _⟩ := hd
        refine ⟨fun hw => ?_, fun hw => absurd hw (by simp [Region.wanted])⟩
        have s145 : a.tmps.getD 145 undef = .bool false := (d0 rfl).now
        refine op_yields (.bool false) ?_ ?_ ?_
        · simp only [execOp, resolve, List.map_toArray, List.map_cons, List.map_nil, Act.eval, s145]; simp [go_sem, -Array.getD_eq_getD_getElem?, s145]
        · exact Below.refl _ _
        · exact (fun _ _ => rfl)
      case o31 =>
        intro a w hfr hG hd
        obtain ⟨d0, _⟩ := hd
        have sg : a.tmps.getD 146 undef = .bool false := (d0 rfl).now
        refine ⟨fun hw => ?_, fun hw => by rw [wanted_of rfl (yielded_of rfl sg)] at hw; exact absurd hw (by decide)⟩
        have s9 : a.tmps.getD 9 undef = .slice (some az) n cz := hfr.at 9 (by kernel_rfl)
        refine op_yields (.slice (some az) n cz) ?_ ?_ ?_
        · simp only [execOp, resolve, List.map_toArray, List.map_cons, List.map_nil, Act.eval, s9]; simp [go_sem, -Array.getD_eq_getD_getElem?, s9]
        · exact Below.refl _ _
        · exact (fun _ _ => rfl)
      case o32 =>
        intro a w hfr hG hd
        obtain ⟨d0, _⟩ := hd
        have sg : a.tmps.getD 146 undef = .bool false := (d0 rfl).now
        refine ⟨fun hw => ?_, fun hw => by rw [wanted_of rfl (yielded_of rfl sg)] at hw; exact absurd hw (by decide)⟩
        have s19 : a.tmps.getD 19 undef = .int .i64 i := hfr.at 19 (by kernel_rfl)
        refine op_yields (.int .i64 i) ?_ ?_ ?_
        · simp only [execOp, resolve, List.map_toArray, List.map_cons, List.map_nil, Act.eval, s19]; simp [go_sem, -Array.getD_eq_getD_getElem?, s19]
        · exact Below.refl _ _
        · exact (fun _ _ => rfl)
      case o33 =>
        intro a w hfr hG hd
        obtain ⟨d0, d1, d2, _⟩ := hd
        have sg : a.tmps.getD 146 undef = .bool false := (d2 rfl).now
        refine ⟨fun hw => ?_, fun hw => by rw [wanted_of rfl (yielded_of rfl sg)] at hw; exact absurd hw (by decide)⟩
        have s147 : a.tmps.getD 147 undef = .slice (some az) n cz := (d0 rfl).now
        have s148 : a.tmps.getD 148 undef = .int .i64 i := (d1 rfl).now
        refine op_yields (.pointer (some (az.add (i * 2)))) ?_ ?_ ?_
        · simp only [execOp, resolve, List.map_toArray, List.map_cons, List.map_nil, Act.eval, s147, s148]; simp [go_sem, -Array.getD_eq_getD_getElem?, s147, s148, hib]
        · exact Below.refl _ _
        · exact (fun _ _ => rfl)
      case o34 =>
        intro a w hfr hG hd
        obtain ⟨d0, d1, _⟩ := hd
        have sg : a.tmps.getD 146 undef = .bool false := (d1 rfl).now
        refine ⟨fun hw => ?_, fun hw => by rw [wanted_of rfl (yielded_of rfl sg)] at hw; exact absurd hw (by decide)⟩
        have s149 : a.tmps.getD 149 undef = .pointer (some (az.add (i * 2))) := (d0 rfl).now
        refine op_yields (.pointer (some ⟨(az.add (i * 2)).block, (az.add (i * 2)).off + 1, none⟩)) ?_ ?_ ?_
        · simp only [execOp, resolve, List.map_toArray, List.map_cons, List.map_nil, Act.eval, s149]; simp [go_sem, -Array.getD_eq_getD_getElem?, s149]
        · exact Below.refl _ _
        · exact (fun _ _ => rfl)
      case o35 =>
        intro a w hfr hG hd
        obtain ⟨d0, d1, _⟩ := hd
        have sg : a.tmps.getD 146 undef = .bool false := (d1 rfl).now
        refine ⟨fun hw => ?_, fun hw => by rw [wanted_of rfl (yielded_of rfl sg)] at hw; exact absurd hw (by decide)⟩
        have s150 : a.tmps.getD 150 undef = .pointer (some ⟨(az.add (i * 2)).block, (az.add (i * 2)).off + 1, none⟩) := (d0 rfl).now
        obtain ⟨z0, z1, z2⟩ := pt_cell (hG.now.at (List.mem_cons_of_mem _ (List.mem_cons_self))) Hz.out
        refine op_yields (.int .i64 pz.val) ?_ ?_ ?_
        · simp only [execOp, resolve, List.map_toArray, List.map_cons, List.map_nil, Act.eval, s150]; simp [go_sem, -Array.getD_eq_getD_getElem?, s150, z1]
        · exact Below.refl _ _
        · exact (fun _ _ => rfl)
      case o36 =>
        intro a w hfr hG hd
        obtain ⟨d0, _⟩ := hd
        have sg : a.tmps.getD 146 undef = .bool false := (d0 rfl).now
        refine ⟨fun hw => ?_, fun hw => by rw [wanted_of rfl (yielded_of rfl sg)] at hw; exact absurd hw (by decide)⟩
        have s7 : a.tmps.getD 7 undef = .slice (some ac) n cc := hfr.at 7 (by kernel_rfl)
        refine op_yields (.slice (some ac) n cc) ?_ ?_ ?_
        · simp only [execOp, resolve, List.map_toArray, List.map_cons, List.map_nil, Act.eval, s7]; simp [go_sem, -Array.getD_eq_getD_getElem?, s7]
        · exact Below.refl _ _
        · exact (fun _ _ => rfl)
      case o37 =>
        intro a w hfr hG hd
        obtain ⟨d0, _⟩ := hd
        have sg : a.tmps.getD 146 undef = .bool false := (d0 rfl).now
        refine ⟨fun hw => ?_, fun hw => by rw [wanted_of rfl (yielded_of rfl sg)] at hw; exact absurd hw (by decide)⟩
        have s19 : a.tmps.getD 19 undef = .int .i64 i := hfr.at 19 (by kernel_rfl)
        refine op_yields (.int .i64 i) ?_ ?_ ?_
        · simp only [execOp, resolve, List.map_toArray, List.map_cons, List.map_nil, Act.eval, s19]; simp [go_sem, -Array.getD_eq_getD_getElem?, s19]
        · exact Below.refl _ _
        · exact (fun _ _ => rfl)
      case o38 =>
        intro a w hfr hG hd
        obtain ⟨d0, d1, d2, _⟩ := hd
        have sg : a.tmps.getD 146 undef = .bool false := (d2 rfl).now
        refine ⟨fun hw => ?_, fun hw => by rw [wanted_of rfl (yielded_of rfl sg)] at hw; exact absurd hw (by decide)⟩
        have s152 : a.tmps.getD 152 undef = .slice (some ac) n cc := (d0 rfl).now
        have s153 : a.tmps.getD 153 undef = .int .i64 i := (d1 rfl).now
        refine op_yields (.pointer (some (ac.add (i * 2)))) ?_ ?_ ?_
        · simp only [execOp, resolve, List.map_toArray, List.map_cons, List.map_nil, Act.eval, s152, s153]; simp [go_sem, -Array.getD_eq_getD_getElem?, s152, s153, hib]
        · exact Below.refl _ _
        · exact (fun _ _ => rfl)
      case o39 =>
        intro a w hfr hG hd
        obtain ⟨d0, d1, _⟩ := hd
        have sg : a.tmps.getD 146 undef = .bool false := (d1 rfl).now
        refine ⟨fun hw => ?_, fun hw => by rw [wanted_of rfl (yielded_of rfl sg)] at hw; exact absurd hw (by decide)⟩
        have s154 : a.tmps.getD 154 undef = .pointer (some (ac.add (i * 2))) := (d0 rfl).now
        refine op_yields (.pointer (some ⟨(ac.add (i * 2)).block, (ac.add (i * 2)).off + 1, none⟩)) ?_ ?_ ?_
        · simp only [execOp, resolve, List.map_toArray, List.map_cons, List.map_nil, Act.eval, s154]; simp [go_sem, -Array.getD_eq_getD_getElem?, s154]
        · exact Below.refl _ _
        · exact (fun _ _ => rfl)
      case o40 =>
        intro a w hfr hG hd
        obtain ⟨d0, d1, _⟩ := hd
        have sg : a.tmps.getD 146 undef = .bool false := (d1 rfl).now
        refine ⟨fun hw => ?_, fun hw => by rw [wanted_of rfl (yielded_of rfl sg)] at hw; exact absurd hw (by decide)⟩
        have s155 : a.tmps.getD 155 undef = .pointer (some ⟨(ac.add (i * 2)).block, (ac.add (i * 2)).off + 1, none⟩) := (d0 rfl).now
        obtain ⟨z0, z1, z2⟩ := pt_cell (hG.now.at (List.mem_cons_self)) Hc.out
        refine op_yields (.int .i64 pc.val) ?_ ?_ ?_
        · simp only [execOp, resolve, List.map_toArray, List.map_cons, List.map_nil, Act.eval, s155]; simp [go_sem, -Array.getD_eq_getD_getElem?, s155, z1]
        · exact Below.refl _ _
        · exact (fun _ _ => rfl)
      case o41 =>
        intro a w hfr hG hd
        obtain ⟨d0, _⟩ := hd
        have sg : a.tmps.getD 146 undef = .bool false := (d0 rfl).now
        refine ⟨fun hw => ?_, fun hw => by rw [wanted_of rfl (yielded_of rfl sg)] at hw; exact absurd hw (by decide)⟩
        have s13 : a.tmps.getD 13 undef = .slice (some ah) n ch := hfr.at 13 (by kernel_rfl)
        refine op_yields (.slice (some ah) n ch) ?_ ?_ ?_
        · simp only [execOp, resolve, List.map_toArray, List.map_cons, List.map_nil, Act.eval, s13]; simp [go_sem, -Array.getD_eq_getD_getElem?, s13]
        · exact Below.refl _ _
        · exact (fun _ _ => rfl)
      case o42 =>
        intro a w hfr hG hd
        obtain ⟨d0, _⟩ := hd
        have sg : a.tmps.getD 146 undef = .bool false := (d0 rfl).now
        refine ⟨fun hw => ?_, fun hw => by rw [wanted_of rfl (yielded_of rfl sg)] at hw; exact absurd hw (by decide)⟩
        have s19 : a.tmps.getD 19 undef = .int .i64 i := hfr.at 19 (by kernel_rfl)
        refine op_yields (.int .i64 i) ?_ ?_ ?_
        · simp only [execOp, resolve, List.map_toArray, List.map_cons, List.map_nil, Act.eval, s19]; simp [go_sem, -Array.getD_eq_getD_getElem?, s19]
        · exact Below.refl _ _
        · exact (fun _ _ => rfl)
      case o43 =>
        intro a w hfr hG hd
        obtain ⟨d0, d1, d2, _⟩ := hd
        have sg : a.tmps.getD 146 undef = .bool false := (d2 rfl).now
        refine ⟨fun hw => ?_, fun hw => by rw [wanted_of rfl (yielded_of rfl sg)] at hw; exact absurd hw (by decide)⟩
        have s157 : a.tmps.getD 157 undef = .slice (some ah) n ch := (d0 rfl).now
        have s158 : a.tmps.getD 158 undef = .int .i64 i := (d1 rfl).now
        refine op_yields (.pointer (some (ah.add (i * 2)))) ?_ ?_ ?_
        · simp only [execOp, resolve, List.map_toArray, List.map_cons, List.map_nil, Act.eval, s157, s158]; simp [go_sem, -Array.getD_eq_getD_getElem?, s157, s158, hib]
        · exact Below.refl _ _
        · exact (fun _ _ => rfl)
      case o44 =>
        intro a w hfr hG hd
        obtain ⟨d0, d1, _⟩ := hd
        have sg : a.tmps.getD 146 undef = .bool false := (d1 rfl).now
        refine ⟨fun hw => ?_, fun hw => by rw [wanted_of rfl (yielded_of rfl sg)] at hw; exact absurd hw (by decide)⟩
        have s159 : a.tmps.getD 159 undef = .pointer (some (ah.add (i * 2))) := (d0 rfl).now
        refine op_yields (.pointer (some ⟨(ah.add (i * 2)).block, (ah.add (i * 2)).off + 1, none⟩)) ?_ ?_ ?_
        · simp only [execOp, resolve, List.map_toArray, List.map_cons, List.map_nil, Act.eval, s159]; simp [go_sem, -Array.getD_eq_getD_getElem?, s159]
        · exact Below.refl _ _
        · exact (fun _ _ => rfl)
      case o45 =>
        intro a w hfr hG hd
        obtain ⟨d0, d1, _⟩ := hd
        have sg : a.tmps.getD 146 undef = .bool false := (d1 rfl).now
        refine ⟨fun hw => ?_, fun hw => by rw [wanted_of rfl (yielded_of rfl sg)] at hw; exact absurd hw (by decide)⟩
        have s160 : a.tmps.getD 160 undef = .pointer (some ⟨(ah.add (i * 2)).block, (ah.add (i * 2)).off + 1, none⟩) := (d0 rfl).now
        obtain ⟨z0, z1, z2⟩ := pt_cell (hG.now.at (List.mem_cons_of_mem _ (List.mem_cons_of_mem _ (List.mem_cons_of_mem _ (List.mem_cons_self))))) Hh.out
        refine op_yields (.int .i64 ph.val) ?_ ?_ ?_
        · simp only [execOp, resolve, List.map_toArray, List.map_cons, List.map_nil, Act.eval, s160]; simp [go_sem, -Array.getD_eq_getD_getElem?, s160, z1]
        · exact Below.refl _ _
        · exact (fun _ _ => rfl)
      case o46 =>
        intro a w hfr hG hd
        obtain ⟨d0, d1, d2, _⟩ := hd
        have sg : a.tmps.getD 146 undef = .bool false := (d2 rfl).now
        refine ⟨fun hw => ?_, fun hw => by rw [wanted_of rfl (yielded_of rfl sg)] at hw; exact absurd hw (by decide)⟩
        have s156 : a.tmps.getD 156 undef = .int .i64 pc.val := (d0 rfl).now
        have s161 : a.tmps.getD 161 undef = .int .i64 ph.val := (d1 rfl).now
        refine op_yields (.int .i64 (pc.val * ph.val)) ?_ ?_ ?_
        · simp only [execOp, resolve, List.map_toArray, List.map_cons, List.map_nil, Act.eval, s156, s161]; simp [go_sem, -Array.getD_eq_getD_getElem?, s156, s161, hw4]
        · exact Below.refl _ _
        · exact (fun _ _ => rfl)
      case o47 =>
        intro a w hfr hG hd
        obtain ⟨d0, d1, d2, _⟩ := hd
        have sg : a.tmps.getD 146 undef = .bool false := (d2 rfl).now
        refine ⟨fun hw => ?_, fun hw => by rw [wanted_of rfl (yielded_of rfl sg)] at hw; exact absurd hw (by decide)⟩
        have s151 : a.tmps.getD 151 undef = .int .i64 pz.val := (d0 rfl).now
        have s162 : a.tmps.getD 162 undef = .int .i64 (pc.val * ph.val) := (d1 rfl).now
        refine op_yields (.bool false) ?_ ?_ ?_
        · simp only [execOp, resolve, List.map_toArray, List.map_cons, List.map_nil, Act.eval, s151, s162]; simp [go_sem, -Array.getD_eq_getD_getElem?, s151, s162, hmh1]
        · exact Below.refl _ _
        · exact (fun _ _ => rfl)
      case o48 =>
        intro a w hfr hG hd
        obtain ⟨d0, d1, _⟩ := hd
        refine ⟨fun hw => ?_, fun hw => absurd hw (by simp [Region.wanted])⟩
        have s146 : a.tmps.getD 146 undef = .bool false := (d0 rfl).now
        have s163 : a.tmps.getD 163 undef = .bool false := (d1 rfl).now
        refine op_yields (.bool false) ?_ ?_ ?_
        · simp only [execOp, resolve, List.map_toArray, List.map_cons, List.map_nil, Act.eval, s146, s163]; simp [go_sem, -Array.getD_eq_getD_getElem?, s146, s163]
        · exact Below.refl _ _
        · exact (fun _ _ => rfl)
      case o49 =>
        intro a w hfr hG hd
        obtain ⟨d0, d1, _⟩ := hd
        refine ⟨fun hw => ?_, fun hw => absurd hw (by simp [Region.wanted])⟩
        have s164 : a.tmps.getD 164 undef = .bool false := (d0 rfl).now
        refine op_yields (.bool false) ?_ ?_ ?_
        · simp only [execOp, resolve, List.map_toArray, List.map_cons, List.map_nil, Act.eval, s164]; simp [go_sem, -Array.getD_eq_getD_getElem?, s164]
        · exact Below.refl _ _
        · exact (fun _ _ => rfl)
      case o50 =>
        intro a w hfr hG hd
        obtain ⟨d0, _⟩ := hd
        have sg : a.tmps.getD 165 undef = .bool false := (d0 rfl).now
        refine ⟨fun hw => ?_, fun hw => by rw [wanted_of rfl (yielded_of rfl sg)] at hw; exact absurd hw (by decide)⟩
        have s7 : a.tmps.getD 7 undef = .slice (some ac) n cc := hfr.at 7 (by kernel_rfl)
        refine op_yields (.slice (some ac) n cc) ?_ ?_ ?_
        · simp only [execOp, resolve, List.map_toArray, List.map_cons, List.map_nil, Act.eval, s7]; simp [go_sem, -Array.getD_eq_getD_getElem?, s7]
        · exact Below.refl _ _
        · exact (fun _ _ => rfl)
      case o51 =>
        intro a w hfr hG hd
        obtain ⟨d0, _⟩ := hd
        have sg : a.tmps.getD 165 undef = .bool false := (d0 rfl).now
        refine ⟨fun hw => ?_, fun hw => by rw [wanted_of rfl (yielded_of rfl sg)] at hw; exact absurd hw (by decide)⟩
        have s19 : a.tmps.getD 19 undef = .int .i64 i := hfr.at 19 (by kernel_rfl)
        refine op_yields (.int .i64 i) ?_ ?_ ?_
        · simp only [execOp, resolve, List.map_toArray, List.map_cons, List.map_nil, Act.eval, s19]; simp [go_sem, -Array.getD_eq_getD_getElem?, s19]
        · exact Below.refl _ _
        · exact (fun _ _ => rfl)
      case o52 =>
        intro a w hfr hG hd
        obtain ⟨d0, d1, d2, _⟩ := hd
        have sg : a.tmps.getD 165 undef = .bool false := (d2 rfl).now
        refine ⟨fun hw => ?_, fun hw => by rw [wanted_of rfl (yielded_of rfl sg)] at hw; exact absurd hw (by decide)⟩
        have s166 : a.tmps.getD 166 undef = .slice (some ac) n cc := (d0 rfl).now
        have s167 : a.tmps.getD 167 undef = .int .i64 i := (d1 rfl).now
        refine op_yields (.pointer (some (ac.add (i * 2)))) ?_ ?_ ?_
        · simp only [execOp, resolve, List.map_toArray, List.map_cons, List.map_nil, Act.eval, s166, s167]; simp [go_sem, -Array.getD_eq_getD_getElem?, s166, s167, hib]
        · exact Below.refl _ _
        · exact (fun _ _ => rfl)
      case o53 =>
        intro a w hfr hG hd
        obtain ⟨d0, d1, _⟩ := hd
        have sg : a.tmps.getD 165 undef = .bool false := (d1 rfl).now
        refine ⟨fun hw => ?_, fun hw => by rw [wanted_of rfl (yielded_of rfl sg)] at hw; exact absurd hw (by decide)⟩
        have s168 : a.tmps.getD 168 undef = .pointer (some (ac.add (i * 2))) := (d0 rfl).now
        refine op_yields (.pointer (some (ac.add (i * 2)))) ?_ ?_ ?_
        · simp only [execOp, resolve, List.map_toArray, List.map_cons, List.map_nil, Act.eval, s168]; simp [go_sem, -Array.getD_eq_getD_getElem?, s168]
        · exact Below.refl _ _
        · exact (fun _ _ => rfl)
      case o54 =>
        intro a w hfr hG hd
        obtain ⟨d0, d1, _⟩ := hd
        have sg : a.tmps.getD 165 undef = .bool false := (d1 rfl).now
        refine ⟨fun hw => ?_, fun hw => by rw [wanted_of rfl (yielded_of rfl sg)] at hw; exact absurd hw (by decide)⟩
        have s169 : a.tmps.getD 169 undef = .pointer (some (ac.add (i * 2))) := (d0 rfl).now
        obtain ⟨z0, z1, z2⟩ := pt_cell (hG.now.at (List.mem_cons_self)) Hc.out
        refine op_yields (pc.sv) ?_ ?_ ?_
        · simp only [execOp, resolve, List.map_toArray, List.map_cons, List.map_nil, Act.eval, s169]; simp [go_sem, -Array.getD_eq_getD_getElem?, s169, z0]
        · exact Below.refl _ _
        · exact (fun _ _ => rfl)
      case o55 =>
        intro a w hfr hG hd
        obtain ⟨d0, _⟩ := hd
        have sg : a.tmps.getD 165 undef = .bool false := (d0 rfl).now
        refine ⟨fun hw => ?_, fun hw => by rw [wanted_of rfl (yielded_of rfl sg)] at hw; exact absurd hw (by decide)⟩
        have s9 : a.tmps.getD 9 undef = .slice (some az) n cz := hfr.at 9 (by kernel_rfl)
        refine op_yields (.slice (some az) n cz) ?_ ?_ ?_
        · simp only [execOp, resolve, List.map_toArray, List.map_cons, List.map_nil, Act.eval, s9]; simp [go_sem, -Array.getD_eq_getD_getElem?, s9]
        · exact Below.refl _ _
        · exact (fun _ _ => rfl)
      case o56 =>
        intro a w hfr hG hd
        obtain ⟨d0, _⟩ := hd
        have sg : a.tmps.getD 165 undef = .bool false := (d0 rfl).now
        refine ⟨fun hw => ?_, fun hw => by rw [wanted_of rfl (yielded_of rfl sg)] at hw; exact absurd hw (by decide)⟩
        have s19 : a.tmps.getD 19 undef = .int .i64 i := hfr.at 19 (by kernel_rfl)
        refine op_yields (.int .i64 i) ?_ ?_ ?_
        · simp only [execOp, resolve, List.map_toArray, List.map_cons, List.map_nil, Act.eval, s19]; simp [go_sem, -Array.getD_eq_getD_getElem?, s19]
        · exact Below.refl _ _
        · exact (fun _ _ => rfl)
      case o57 =>
        intro a w hfr hG hd
        obtain ⟨d0, d1, d2, _⟩ := hd
        have sg : a.tmps.getD 165 undef = .bool false := (d2 rfl).now
        refine ⟨fun hw => ?_, fun hw => by rw [wanted_of rfl (yielded_of rfl sg)] at hw; exact absurd hw (by decide)⟩
        have s171 : a.tmps.getD 171 undef = .slice (some az) n cz := (d0 rfl).now
        have s172 : a.tmps.getD 172 undef = .int .i64 i := (d1 rfl).now
        refine op_yields (.pointer (some (az.add (i * 2)))) ?_ ?_ ?_
        · simp only [execOp, resolve, List.map_toArray, List.map_cons, List.map_nil, Act.eval, s171, s172]; simp [go_sem, -Array.getD_eq_getD_getElem?, s171, s172, hib]
        · exact Below.refl _ _
        · exact (fun _ _ => rfl)
      case o58 =>
        intro a w hfr hG hd
        obtain ⟨d0, d1, _⟩ := hd
        have sg : a.tmps.getD 165 undef = .bool false := (d1 rfl).now
        refine ⟨fun hw => ?_, fun hw => by rw [wanted_of rfl (yielded_of rfl sg)] at hw; exact absurd hw (by decide)⟩
        have s173 : a.tmps.getD 173 undef = .pointer (some (az.add (i * 2))) := (d0 rfl).now
        refine op_yields (.pointer (some (az.add (i * 2)))) ?_ ?_ ?_
        · simp only [execOp, resolve, List.map_toArray, List.map_cons, List.map_nil, Act.eval, s173]; simp [go_sem, -Array.getD_eq_getD_getElem?, s173]
        · exact Below.refl _ _
        · exact (fun _ _ => rfl)
      case o59 =>
        intro a w hfr hG hd
        obtain ⟨d0, d1, _⟩ := hd
        have sg : a.tmps.getD 165 undef = .bool false := (d1 rfl).now
        refine ⟨fun hw => ?_, fun hw => by rw [wanted_of rfl (yielded_of rfl sg)] at hw; exact absurd hw (by decide)⟩
        have s174 : a.tmps.getD 174 undef = .pointer (some (az.add (i * 2))) := (d0 rfl).now
        obtain ⟨z0, z1, z2⟩ := pt_cell (hG.now.at (List.mem_cons_of_mem _ (List.mem_cons_self))) Hz.out
        refine op_yields (pz.sv) ?_ ?_ ?_
        · simp only [execOp, resolve, List.map_toArray, List.map_cons, List.map_nil, Act.eval, s174]; simp [go_sem, -Array.getD_eq_getD_getElem?, s174, z0]
        · exact Below.refl _ _
        · exact (fun _ _ => rfl)
      case o60 =>
        intro a w hfr hG hd
        obtain ⟨d0, d1, d2, d3, _⟩ := hd
        have sg : a.tmps.getD 165 undef = .bool false := (d2 rfl).now
        refine ⟨fun hw => ?_, fun hw => by rw [wanted_of rfl (yielded_of rfl sg)] at hw; exact absurd hw (by decide)⟩
        have s170 : a.tmps.getD 170 undef = pc.sv := (d0 rfl).now
        have s175 : a.tmps.getD 175 undef = pz.sv := (d1 rfl).now
        refine op_calls2 ((HSM.out w hG.now).mono fun e' w' hh => ⟨_, hh.1, hh.2, (fun _ _ => rfl)⟩) ?_
        simp only [execOp, resolve, List.map_toArray, List.map_cons, List.map_nil, Act.eval, s170, s175]; simp [go_sem, -Array.getD_eq_getD_getElem?, s170, s175]
      case o61 =>
        intro a w hfr hG hd
        obtain ⟨d0, d1, _⟩ := hd
        have sg : a.tmps.getD 165 undef = .bool false := (d1 rfl).now
        refine ⟨fun hw => ?_, fun hw => by rw [wanted_of rfl (yielded_of rfl sg)] at hw; exact absurd hw (by decide)⟩
        have s176 : a.tmps.getD 176 undef = .bool true := (d0 rfl).now
        refine op_yields (.bool false) ?_ ?_ ?_
        · simp only [execOp, resolve, List.map_toArray, List.map_cons, List.map_nil, Act.eval, s176]; simp [go_sem, -Array.getD_eq_getD_getElem?, s176]
        · exact Below.refl _ _
        · exact (fun _ _ => rfl)
      case o62 =>
        intro a w hfr hG hd
        obtain ⟨d0, d1, _⟩ := hd
        refine ⟨fun hw => ?_, fun hw => absurd hw (by simp [Region.wanted])⟩
        have s165 : a.tmps.getD 165 undef = .bool false := (d0 rfl).now
        have s177 : a.tmps.getD 177 undef = .bool false := (d1 rfl).now
        refine op_yields (.bool false) ?_ ?_ ?_
        · simp only [execOp, resolve, List.map_toArray, List.map_cons, List.map_nil, Act.eval, s165, s177]; simp [go_sem, -Array.getD_eq_getD_getElem?, s165, s177]
        · exact Below.refl _ _
        · exact (fun _ _ => rfl)
      case hG => exact fun w' hb => HGV.out.below (((below_drewN2 (Below.refl _ _) _).drew).trans (hb.mono (by simp)))
      case hend =>
        intro vs2 wq hG hv
        have key : vs2 62 = .bool false := by
          obtain ⟨_, _, _, _, _, _, _, _, _, _, _, _, _, _, _, _, _, _, _, _, _, _, _, _, _, _, _, _, _, _, _, _, _, _, _, _, _, _, _, _, _, _, _, _, _, _, _, _, _, _, _, _, _, _, _, _, _, _, _, _, _, _, h62, _⟩ := hv
          exact h62.now
        have HN2 := Lib.hid hG.now
        clear hv hG HSM HGV HFW Hc Hz Hl Hh
        simp only [putAll, Act.put, key]
        clear key
        go_simp
        go_wp2_with fail
        go_roundg gq
        case measure => omega
        case rel => exact ⟨i + 1, by have := HIG.out; omega, by rw [HCS.out], by rw [HSS.out], by first | rfl | go_num, HN2.out⟩
    | zero =>
      obtain rfl : i = n := by omega
      have hcs : cS S i = (nx : Int) := by unfold cS; rw [← HN.out, List.take_length, hnx.out]; exact HGF.out.ok.cs
      have hss : sS S i = sumI (ps.map fun p => p.2) := by unfold sS; rw [← HN.out, List.take_length]; exact HGF.out.ok.ss
      rw [hcs, hss]
      clear hcs hss b1 b2 b3 b4
      go_wp2_with fail
      (with_reducible refine (names_any _).mono ?_); rintro e wn ⟨rfl, hwn⟩
      have hbn : Below wr.heap.size wr wn := by rw [← hwn]; exact (Below.refl _ _).alloc (Nat.le_refl _) _
      have hnn2 : Blk wn wr.heap.size 9 (strs keepNames) := by rw [← hwn]; exact Blk.mk (heap_alloc_new wr _)
      have HNN := Lib.hid (hnn2.sees (size := 1) (n := 4) rfl (List.prefix_refl _))
      have HGN := Lib.hid (HGV.out.below hbn)
      have hwz : wr.heap.size < wn.heap.size := by rw [← hwn]; simp
      have HWZ := Lib.hid hwz
      clear hbn hnn2 hwn HGV hwz
      go_wp2_with fail
      (with_reducible refine (group_v 17 (some ⟨wr.heap.size, 0, none⟩) 4 4 keepNames HOWN.out (HNN.out.more (by have := HWZ.out; omega)) (by omega) HGN.out.x (by have := HPA.out.len; omega) HFA.out).mono ?_); rintro e wo ⟨vo, rfl, hv, hb⟩
      have HO := Lib.hid hv
      have HGO := Lib.hid (HGN.out.below hb)
      clear hv hb HGN HNN HWZ
      have hpl := hnx.out
      rcases HLA.out with ⟨h0, hLa⟩ | ⟨h0, lt, hLa⟩
      · have hra : ra.length = 0 := by have h1 := congrArg List.length HLa.out; rw [ptsOf_len, hLa] at h1; exact h1
        rw [hra] at HGO ⊢
        obtain rfl : nx = 0 := by omega
        clear hLa h0 hra hpl
        go_wp2_with fail
        (with_reducible refine (sort_v HGO.out.x (by have := HPA.out.len; omega) HFA.out).mono ?_); rintro e wp ⟨vp, rfl, hv, hb⟩
        have HP := Lib.hid hv; have HO2 := Lib.hid (HO.out.below hb); have HB2 := Lib.hid (HGO.out.below hb).bel
        clear hv hb HO HGO
        go_wp2_with fail
        (with_reducible refine (points_v HO2.out HP.out).mono ?_); rintro e wq ⟨rfl, hb⟩
        have HB3 := Lib.hid (HB2.out.trans (hb.mono HB2.out.size))
        clear hb
        rw [decide_eq_true rfl]
        go_wp2_with fail
        (with_reducible refine (HRN.out wq).mono ?_); rintro e ws ⟨rfl, hb⟩
        have HB4 := HB3.out.trans (hb.mono HB3.out.size)
        clear hb
        go_wp2_with fail
        go_ret
        exact ⟨rfl, HB4⟩
      · have hra : ra.length = 1 := by have h1 := congrArg List.length HLa.out; rw [ptsOf_len, hLa] at h1; exact h1
        obtain ⟨r0, rfl⟩ := List.length_eq_one_iff.1 hra
        have hr0 : r0.val = sumI (ps.map fun p => p.2) := by have h1 := HLa.out; rw [hLa] at h1; injection h1 with h1; exact congrArg Prod.snd h1
        rw [hra] at HGO ⊢
        have hnz : ¬ nx = 0 := by omega
        have hnz2 : ¬ (nx : Int) = 0 := by omega
        obtain ⟨aa, hA, q1, q2, q3⟩ := (HGO.out.at (List.mem_cons_of_mem _ (List.mem_cons_of_mem _ (List.mem_cons_of_mem _ (List.mem_cons_of_mem _ (List.mem_cons_self)))))).get2 (k := 0) (by simp)
        clear q1 q2 q3; subst hA
        obtain ⟨z0, z1, z2⟩ := pt_cell (HGO.out.at (List.mem_cons_of_mem _ (List.mem_cons_of_mem _ (List.mem_cons_of_mem _ (List.mem_cons_of_mem _ (List.mem_cons_self)))))) (i := 0) (p := r0) rfl
        rw [hr0] at z1
        clear z0 z2 hr0 hLa h0 hra hpl
        replace z1 : wo.cell? ⟨aa.block, aa.off + 1, none⟩ = some (.int .i64 (sumI (ps.map fun p => p.2))) := z1
        go_wp2_with fail
        (with_reducible refine (sort_v HGO.out.x (by have := HPA.out.len; omega) HFA.out).mono ?_); rintro e wp ⟨vp, rfl, hv, hb⟩
        have HP := Lib.hid hv; have HO2 := Lib.hid (HO.out.below hb); have HB2 := Lib.hid (HGO.out.below hb).bel
        clear hv hb HO HGO
        go_wp2_with fail
        (with_reducible refine (points_v HO2.out HP.out).mono ?_); rintro e wq ⟨rfl, hb⟩
        have HB3 := Lib.hid (HB2.out.trans (hb.mono HB2.out.size))
        clear hb
        rw [decide_eq_true rfl]
        go_wp2_with fail
        (with_reducible refine (HRN.out wq).mono ?_); rintro e ws ⟨rfl, hb⟩
        have HB4 := HB3.out.trans (hb.mono HB3.out.size)
        clear hb
        go_wp2_with fail
        go_ret
        exact ⟨rfl, HB4⟩
end Go.Proofs.Ytbndmmfpoljeaaa
