/- klaxonref17.To. -/
import Derived.Test.YtddkkfjgdfdcnaaRoute3
import Derived.Test.YtddkkfjgdfdcnaaRefMatch
namespace Go.Proofs.Ytddkkfjgdfdcnaa
open Go.ChangeShapes Go.WideShapes Go.ChangeAt Go.RowKit
set_option linter.unusedVariables false
set_option linter.unusedSimpArgs false
set_option maxRecDepth 100000
/-- The texts of a tree are no longer than an int tells. -/
def szAt : Nat → RT → Prop
  | 0, _ => True
  | d + 1, r => (∀ z ∈ r.ms, z.1.size ≤ 9223372036854775807 ∧ z.2.1.size ≤ 9223372036854775807) ∧ r.nm.size ≤ 9223372036854775807 ∧ ∀ k ∈ r.kids, szAt d k
theorem toF_ne (l : List Lbl) (d : Nat) (r : RT) : toF l (d + 1) r ≠ [] := by
  unfold toF
  split
  · simp
  · next h => exact h
theorem refAll_h {W : World} {v vm : Value} {l : List Lbl} {ms : List Mtc} (h : HasL W v l) (h2 : HasM W vm ms) (hz : ∀ z ∈ ms, z.2.1.size ≤ 9223372036854775807) :
    Calls Try.prog 25 #[vm, v] W fun e w' => e = .returned (.bool (allF l ms)) ∧ Below W.heap.size W w' := by
  obtain ⟨A, c, rfl, h3, h4, h5⟩ := h
  obtain ⟨A2, c2, rfl, k3, k4, k5⟩ := h2
  exact refAll_any A _ c _ l A2 _ c2 _ ms W h3 (Nat.le_refl _) (by omega) k3 (Nat.le_refl _) (by omega) hz
set_option maxHeartbeats 8000000 in
theorem refTo_any (v : Value) (l : List Lbl) : ∀ (d : Nat) (r : RT) (w : World), okAt d r w → HasL w v l → countF d r ≤ 1000000 → szAt d r →
    Calls Try.prog 13 #[r.val, v] w (StrsAns (toF l d r) w)
  | 0, _, _, h, _, _, _ => h.elim
  | d + 1, .mk mv ms nm gs kv ks, w, h, hv, hc, hsz => by
    obtain ⟨i0, hi0, hz0, hz1, hz2⟩ := info_parts Try.infoStr
    obtain ⟨hm, hk, hks⟩ := h
    simp only [RT.mv, RT.ms, RT.kv, RT.kids] at hm hk hks
    obtain ⟨Am, cm, rfl, hm1, hm2⟩ := hm.form2
    obtain ⟨Ak, ck, rfl, hk1, hk2⟩ := hk.form
    obtain ⟨AL, cL, rfl⟩ := hv.form
    have hcc : 1 + (ks.map (countF d)).sum ≤ 1000000 := hc
    have HC : Hid (toF l (d + 1) (.mk (.slice Am ms.length cm) ms nm gs (.slice Ak ks.length ck) ks) = if goKids (toF l d) l ks = [] then [nm] else goKids (toF l d) l ks) := Lib.hid rfl
    have HT := Lib.hid ((((((Kept.start w).add hv.stay).add (P := fun W => ∀ k ∈ ks, okAt d k W) (fun W hb k hk => okAt_below hb d k (hks k hk))).add hk.stay).alloc (.cells #[.slice Am ms.length cm, .string nm, .bool gs, .slice Ak ks.length ck] 28)).add (Blk.mk (heap_alloc_new w (.cells #[.slice Am ms.length cm, .string nm, .bool gs, .slice Ak ks.length ck] 28)) : Blk _ w.heap.size 28 [.slice Am ms.length cm, .string nm, .bool gs, .slice Ak ks.length ck]).stays)
    have HIH := Lib.hid (fun (k : RT) (V : World) (h : okAt d k V) (h2 : HasL V (.slice AL l.length cL) l) (h9 : countF d k ≤ 1000000) (h8 : szAt d k) => refTo_any (.slice AL l.length cL) l d k V h h2 h9 h8)
    have HLEN := Lib.hid (goKids_len (f := toF l d) (g := countF d) (l := l) (ks := ks) (fun k _ => toF_len l d k))
    clear hm hk hks hv hc
    show Calls _ _ #[.agg #[.slice Am ms.length cm, .string nm, .bool gs, .slice Ak ks.length ck], .slice AL l.length cL] _ _
    obtain ⟨bx, hbx⟩ : ∃ b, w.heap.size = b := ⟨_, rfl⟩
    obtain ⟨W1, hW1⟩ : ∃ W, w.alloc (.cells #[.slice Am ms.length cm, .string nm, .bool gs, .slice Ak ks.length ck] 28) = W := ⟨_, rfl⟩
    rw [hW1, hbx] at HT
    have b3 := HT.out.p0.cell 3
    simp only [List.getElem?_cons_zero, List.getElem?_cons_succ] at b3
    have HSB := Lib.hid hbx
    go_enter Try.func13, Try.ntmps13
    go_upto_block 0 with fail
    clear hW1 hbx b3
    have HSZ := Lib.hid (show ∀ k ∈ ks, szAt d k from hsz.2.2)
    clear hsz
    go_cut [5, 11] from 11 to 29 (fun x5 x11 wx => ∃ (X : Option Addr) (cx : Nat) (L : List ByteArray), x5 = .slice X L.length cx ∧ wx.ownsRow W1.heap.size 9 1 (.slice X L.length cx) L.length (strs L) ∧ Below W1.heap.size W1 wx ∧ goKids (toF l d) l ks = L)
    case first =>
      go_wp2_with fail
      go_loopg [5, 11] ks.length (fun g x5 x11 wr => ∃ (k : Nat) (X : Option Addr) (cx : Nat) (L : List ByteArray), k + g = ks.length ∧ x11 = .int .i64 k ∧ x5 = .slice X L.length cx ∧ wr.ownsRow W1.heap.size 9 1 (.slice X L.length cx) L.length (strs L) ∧ Below W1.heap.size W1 wr ∧ goKids (toF l d) l ks = L ++ goKids (toF l d) l (ks.drop k))
      case atStart => exact ⟨0, none, 0, [], by omega, rfl, rfl, by simpa [strs] using World.ownsRow_nil _ _ 9 1, Below.refl _ _, by simp⟩
      case round =>
        obtain ⟨k, X, cx, L, hkg, rfl, rfl, hown, hbel, hgo⟩ := hrel
        have HO := Lib.hid hown; have HB := Lib.hid hbel; have HGO := Lib.hid hgo
        clear hown hbel hgo
        cases gk with
        | zero =>
          obtain rfl : k = ks.length := by omega
          have HE := Lib.hid (show goKids (toF l d) l ks = L by rw [HGO.out, List.drop_length]; simp [goKids])
          go_wp2_with fail
          go_meet
          exact ⟨X, cx, L, rfl, HO.out, HB.out, HE.out⟩
        | succ g =>
          have hlt : k < ks.length := by omega
          have HTR := Lib.hid (HT.out.below HB.out)
          obtain ⟨ad, hkl, hA, e0, e1, e2, e3⟩ := HTR.out.p1.get hlt
          have hal := World.block_lt_of_cell? wr _ e0
          have hq := HTR.out.p2 ks[k] (List.getElem_mem _)
          have HDR := Lib.hid (List.drop_eq_getElem_cons hkl)
          have hcq : countF d ks[k] ≤ 1000000 := by
            have h1 := sum_take_succ (l := ks.map (countF d)) (k := k) (by simpa using hkl)
            rw [show (ks.map (countF d))[k]'(by simpa using hkl) = countF d ks[k] by simp] at h1
            have h2 := sum_take_le (ks.map (countF d)) (k + 1)
            omega
          have hLl : L.length ≤ 1000000 := by
            have h1 := HLEN.out
            rw [HGO.out, List.length_append] at h1
            omega
          have hql := toF_len l d ks[k]
          have HGN : Hid (allF l ks[k].ms = false → goKids (toF l d) l ks = L ++ goKids (toF l d) l (ks.drop (k + 1))) := Lib.hid (fun h => by rw [HGO.out, HDR.out, goKids_none h])
          have HGS : Hid (allF l ks[k].ms = true → goKids (toF l d) l ks = L ++ (toF l d ks[k] ++ (if ks[k].goes = true then goKids (toF l d) l (ks.drop (k + 1)) else []))) := Lib.hid (fun h => by rw [HGO.out, HDR.out, goKids_some h])
          have HIQ := Lib.hid (fun V (h : okAt d (ks[k]'hkl) V) h2 => HIH.out (ks[k]'hkl) V h h2 hcq (HSZ.out _ (List.getElem_mem _)))
          have HSQ := Lib.hid (HSZ.out (ks[k]'hkl) (List.getElem_mem _))
          subst hA
          generalize ks[k] = q at *
          obtain ⟨A5, c5, A6, c6, hv5, hv6⟩ := okAt_form hq
          have hmq : HasM wr (.slice A5 q.ms.length c5) q.ms := by
            cases d with
            | zero => exact hq.elim
            | succ d => rw [← hv5]; exact hq.1
          have hzq : ∀ z ∈ q.ms, z.1.size ≤ 9223372036854775807 ∧ z.2.1.size ≤ 9223372036854775807 := by
            cases d with
            | zero => exact hq.elim
            | succ d => exact HSQ.out.1
          have htne : toF l d q ≠ [] := by
            cases d with
            | zero => exact hq.elim
            | succ d => exact toF_ne l d q
          have hms5 : q.ms.length ≤ 9223372036854775807 := by obtain ⟨_, _, _, h1, h2⟩ := hmq.form2; omega
          rw [hv5] at e0
          rw [hv6] at e3
          have hval : q.val = .agg #[.slice A5 q.ms.length c5, .string q.nm, .bool q.goes, .slice A6 q.kids.length c6] := by unfold RT.val; rw [hv5, hv6]
          rw [hval] at HIQ
          have HOK := Lib.hid hq
          generalize hqm : q.ms = qms at *
          generalize q.kids.length = lk at *
          generalize q.nm = qn at *
          generalize q.goes = qg at *
          generalize toF l d q = TQ at *
          have HKI0 := Lib.hid (((((((Kept.start w).below HTR.out.bel).add HTR.out.p3.stay).add (okAt_stays HOK.out)).add hmq.stay).alloc (.cells #[.slice A5 qms.length c5, .string qn, .bool qg, .slice A6 lk c6] 28)).add (Blk.mk (heap_alloc_new wr (.cells #[.slice A5 qms.length c5, .string qn, .bool qg, .slice A6 lk c6] 28)) : Blk _ wr.heap.size 28 [.slice A5 qms.length c5, .string qn, .bool qg, .slice A6 lk c6]).stays |>.add (own_stays (HO.out.alloc (.cells #[.slice A5 qms.length c5, .string qn, .bool qg, .slice A6 lk c6] 28))))
          have HBR := Lib.hid (HB.out.alloc HB.out.size (.cells #[.slice A5 qms.length c5, .string qn, .bool qg, .slice A6 lk c6] 28))
          obtain ⟨bq, hbq⟩ : ∃ b, wr.heap.size = b := ⟨_, rfl⟩
          obtain ⟨Wq, hWq⟩ : ∃ W, wr.alloc (.cells #[.slice A5 qms.length c5, .string qn, .bool qg, .slice A6 lk c6] 28) = W := ⟨_, rfl⟩
          rw [hWq, hbq] at HKI0
          rw [hWq] at HBR
          have f0 := HKI0.out.p1.cell 0
          simp only [List.getElem?_cons_zero, List.getElem?_cons_succ] at f0
          have HZQ := Lib.hid hzq
          have HTNE := Lib.hid htne
          clear hq hv5 hv6 hval hmq HTR HO HB hqm hzq htne
          go_wp2_with fail
          clear hWq hbq f0
          obtain ⟨al, hal3⟩ : ∃ b, allF l qms = b := ⟨_, rfl⟩
          have HAQ := Lib.hid (fun V (h : Kept w [fun W => W.ownsRow W1.heap.size 9 1 (.slice X L.length cx) L.length (strs L), fun W => Blk W bq 28 [.slice A5 qms.length c5, .string qn, .bool qg, .slice A6 lk c6], fun W => HasM W (.slice A5 qms.length c5) qms, fun W => okAt d q W, fun W => HasL W (.slice AL l.length cL) l] V) => refAll_h h.p4 h.p2 (fun z hz => (HZQ.out z hz).2))
          rw [hal3] at HAQ HGN HGS
          clear hal3
          (with_reducible refine (HAQ.out _ HKI0.out).mono ?_); rintro e wz0 ⟨rfl, hbz0⟩
          have HK := Lib.hid (HKI0.out.below hbz0)
          have HB := Lib.hid (HBR.out.trans (hbz0.mono HBR.out.size))
          clear HKI0 HBR hbz0 HAQ
          cases al with
          | false =>
            have HN1 := Lib.hid (HGN.out rfl)
            clear HGN HGS
            go_wp2_with fail
            go_roundg g
            case measure => omega
            case rel => exact ⟨k + 1, X, cx, L, by omega, by go_num, rfl, HK.out.p0, HB.out, HN1.out⟩
          | true =>
            have HE := Lib.hid (HGS.out rfl)
            clear HGN HGS
            have f0 := HK.out.p1.cell 0
            have f1 := HK.out.p1.cell 1
            have f2 := HK.out.p1.cell 2
            have f3 := HK.out.p1.cell 3
            simp only [List.getElem?_cons_zero, List.getElem?_cons_succ] at f0 f1 f2 f3
            go_wp2_with fail
            (with_reducible refine (HIQ.out _ HK.out.p3 HK.out.p4).mono ?_); rintro e wz ⟨A9, c9, rfl, hoz, hbz, hcz1, hcz2⟩
            have HKZ := Lib.hid (HK.out.below hbz)
            have HBZ := Lib.hid (HB.out.trans (hbz.mono HB.out.size))
            have HSZ := Lib.hid (Sees.of_own hoz)
            clear hoz hbz HK HB f0 f1 f2 f3
            go_wp2_with (at_builtin; refine wpList_append_at rfl (.tmp 20) (.tmp 23) 33 rfl W1.heap.size 9 i0 (.string ⟨#[]⟩) 1 16 Try.underlying33 hi0 hz0 hz1 hz2 rfl (by decide) (.slice X L.length cx) L.length (strs L) rfl HKZ.out.p0 _ A9 TQ.length c9 (strs TQ) rfl HSZ.out (strs_one _) (by unfold maxLen; omega) (by omega) HBZ.out.size ?_)
            intro v3 w3 hown3 hgr3 hwh3
            obtain ⟨A3, c3, rfl, hc3, hc4⟩ := own_slice hown3
            have HB3 := Lib.hid (HBZ.out.grown hgr3 HBZ.out.size (fun g hg => (HKZ.out.p0.lt g hg).1))
            have HBQ := Lib.hid (HKZ.out.p1.grown hgr3 (fun e => own_ne_blk HKZ.out.p0 HKZ.out.p1 (by decide) e.symm))
            have HO3 := Lib.hid (show w3.ownsRow W1.heap.size 9 1 (.slice A3 (L ++ TQ).length c3) (L ++ TQ).length (strs (L ++ TQ)) by rw [List.length_append, strs_append]; exact hown3)
            have HLA := Lib.hid (show L.length + TQ.length = (L ++ TQ).length by rw [List.length_append])
            rw [HLA.out] at hc3
            have f2 := HBQ.out.cell 2
            simp only [List.getElem?_cons_zero, List.getElem?_cons_succ] at f2
            clear hown3 hgr3 hwh3 HKZ HBZ HSZ
            cases qg with
            | true =>
              have HN1 := Lib.hid (show goKids (toF l d) l ks = (L ++ TQ) ++ goKids (toF l d) l (ks.drop (k + 1)) by rw [HE.out, if_pos rfl, List.append_assoc])
              generalize L ++ TQ = L2 at *
              go_wp2_with fail
              go_roundg g
              case measure => omega
              case rel => exact ⟨k + 1, A3, c3, L2, by omega, by go_num, by rw [HLA.out], HO3.out, HB3.out, HN1.out⟩
            | false =>
              have HN1 := Lib.hid (show goKids (toF l d) l ks = L ++ TQ by rw [HE.out, if_neg (by simp), List.append_nil])
              have HNE2 := Lib.hid (show L ++ TQ ≠ [] from fun h => HTNE.out (List.append_eq_nil_iff.1 h).2)
              generalize L ++ TQ = L2 at *
              have HE2 := Lib.hid (show toF l (d + 1) (.mk (.slice Am ms.length cm) ms nm gs (.slice (some ad) ks.length ck) ks) = L2 by rw [HC.out, HN1.out, if_neg HNE2.out])
              have HOM := Lib.hid (own_mono HO3.out HT.out.size)
              have HBM := Lib.hid (HT.out.bel.trans (HB3.out.mono HT.out.size))
              obtain ⟨X', cx', j1, j2, j3⟩ := own_slice HO3.out
              injection j1 with j1 _ j4; subst j1; subst j4
              go_wp2_with fail
              go_ret
              unfold StrsAns
              rw [HE2.out]
              exact ownAns HOM.out HBM.out (by first | rfl | (rw [← HLA.out]; rfl)) j2 j3
    case rest =>
      obtain ⟨X, cx, L, rfl, hown, hbel, hgo⟩ := hcut
      have HTZ := Lib.hid (HT.out.below hbel)
      have HO := Lib.hid hown; have HGO := Lib.hid hgo
      have hws : w.heap.size ≤ W1.heap.size := HT.out.size
      have hlen : L.length ≤ 1000000 := by
        have h1 := HLEN.out
        rw [hgo] at h1
        omega
      clear hown hbel hgo HIH HLEN HT
      have g1 := HTZ.out.p0.cell 1
      simp only [List.getElem?_cons_zero, List.getElem?_cons_succ] at g1
      by_cases hL : L = []
      · subst hL
        have HE := Lib.hid (show toF l (d + 1) (.mk (.slice Am ms.length cm) ms nm gs (.slice Ak ks.length ck) ks) = [nm] by rw [HC.out, HGO.out, if_pos rfl])
        have HOW := Lib.hid (show (wc.alloc (.cells #[.string nm] 9)).ownsRow w.heap.size 9 1 (.slice (some ⟨wc.heap.size, 0, none⟩) 1 1) 1 (strs [nm]) by
          have h := (Blk.mk (heap_alloc_new wc (.cells #[.string nm] 9)) : Blk _ wc.heap.size 9 [.string nm]).owns (base := w.heap.size) (size := 1) (n := 1) (cap := 1) HTZ.out.size (Nat.le_refl _) (by unfold maxLen; omega) rfl
          simpa [strs] using h)
        have HBZ := Lib.hid (HTZ.out.bel.alloc HTZ.out.size (.cells #[.string nm] 9))
        clear HC HGO
        simp only [List.length_nil]
        go_wp2_with fail
        try rw [Exit.noGoto_ret]
        go_ret
        unfold StrsAns
        rw [HE.out]
        exact ownAns HOW.out HBZ.out rfl (Nat.le_refl _) (by omega)
      · have HE := Lib.hid (show toF l (d + 1) (.mk (.slice Am ms.length cm) ms nm gs (.slice Ak ks.length ck) ks) = L by rw [HC.out, HGO.out, if_neg hL])
        have hl0 : ¬ (L.length : Int) = 0 := by
          have : L.length ≠ 0 := fun h => hL (List.eq_nil_of_length_eq_zero h)
          omega
        have hl1 : ((L.length : Int) == 0) = false := by rw [beq_eq_false_iff_ne]; exact hl0
        have hl2 : ¬ L.length = 0 := by omega
        have HOM := Lib.hid (own_mono HO.out hws)
        obtain ⟨X', cx', j1, j2, j3⟩ := own_slice HO.out
        injection j1 with j1 _ j4; subst j1; subst j4
        clear HC HGO hL HO
        go_wp2_with fail
        try rw [Exit.noGoto_ret]
        go_ret
        unfold StrsAns
        rw [HE.out]
        exact ownAns HOM.out HTZ.out.bel rfl j2 j3
end Go.Proofs.Ytddkkfjgdfdcnaa
