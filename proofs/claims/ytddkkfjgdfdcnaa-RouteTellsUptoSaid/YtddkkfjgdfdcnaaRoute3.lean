/- route.to, To. -/
import Derived.Test.YtddkkfjgdfdcnaaRoute2
namespace Go.Proofs.Ytddkkfjgdfdcnaa
open Go.ChangeShapes Go.WideShapes Go.ChangeAt Go.RowKit
set_option linter.unusedVariables false
set_option linter.unusedSimpArgs false
set_option maxRecDepth 100000
/-- A call answers new texts. -/
def StrsAns (L : List ByteArray) (w : World) : Ending → World → Prop := OwnAns 9 1 L.length (strs L) w
theorem goKids_none {f : RT → List ByteArray} {l : List Lbl} {k : RT} {ks : List RT} (h : allF l k.ms = false) : goKids f l (k :: ks) = goKids f l ks := by
  rw [goKids, if_neg (by rw [h]; simp)]
theorem goKids_some {f : RT → List ByteArray} {l : List Lbl} {k : RT} {ks : List RT} (h : allF l k.ms = true) : goKids f l (k :: ks) = f k ++ (if k.goes = true then goKids f l ks else []) := by
  rw [goKids, if_pos h]
theorem allF_one (l : List Lbl) (m : Mtc) : allF l [m] = holdsF l m := by simp [allF]
set_option maxHeartbeats 8000000 in
theorem to_any (v : Value) (l : List Lbl) : ∀ (d : Nat) (r : RT) (w : World), okAt d r w → HasL w v l → countF d r ≤ 1000000 →
    Calls Try.prog 18 #[r.val, v] w (StrsAns (toF l d r) w)
  | 0, _, _, h, _, _ => h.elim
  | d + 1, .mk mv ms nm gs kv ks, w, h, hv, hc => by
    obtain ⟨i0, hi0, hz0, hz1, hz2⟩ := info_parts Try.infoStr
    obtain ⟨hm, hk, hks⟩ := h
    simp only [RT.mv, RT.ms, RT.kv, RT.kids] at hm hk hks
    obtain ⟨Am, cm, rfl, hm1, hm2⟩ := hm.form2
    obtain ⟨Ak, ck, rfl, hk1, hk2⟩ := hk.form
    obtain ⟨AL, cL, rfl⟩ := hv.form
    have hcc : 1 + (ks.map (countF d)).sum ≤ 1000000 := hc
    have HC : Hid (toF l (d + 1) (.mk (.slice Am ms.length cm) ms nm gs (.slice Ak ks.length ck) ks) = if goKids (toF l d) l ks = [] then [nm] else goKids (toF l d) l ks) := Lib.hid rfl
    have HT := Lib.hid ((((((Kept.start w).add hv.stay).add (P := fun W => ∀ k ∈ ks, okAt d k W) (fun W hb k hk => okAt_below hb d k (hks k hk))).add hk.stay).alloc (.cells #[.slice Am ms.length cm, .string nm, .bool gs, .slice Ak ks.length ck] 28)).add (Blk.mk (heap_alloc_new w (.cells #[.slice Am ms.length cm, .string nm, .bool gs, .slice Ak ks.length ck] 28)) : Blk _ w.heap.size 28 [.slice Am ms.length cm, .string nm, .bool gs, .slice Ak ks.length ck]).stays)
    have HIH := Lib.hid (fun (k : RT) (V : World) (h : okAt d k V) (h2 : HasL V (.slice AL l.length cL) l) (h9 : countF d k ≤ 1000000) => to_any (.slice AL l.length cL) l d k V h h2 h9)
    have HLEN := Lib.hid (goKids_len (f := toF l d) (g := countF d) (l := l) (ks := ks) (fun k _ => toF_len l d k))
    clear hm hk hks hv hc
    show Calls _ _ #[.agg #[.slice Am ms.length cm, .string nm, .bool gs, .slice Ak ks.length ck], .slice AL l.length cL] _ _
    obtain ⟨bx, hbx⟩ : ∃ b, w.heap.size = b := ⟨_, rfl⟩
    obtain ⟨W1, hW1⟩ : ∃ W, w.alloc (.cells #[.slice Am ms.length cm, .string nm, .bool gs, .slice Ak ks.length ck] 28) = W := ⟨_, rfl⟩
    rw [hW1, hbx] at HT
    have b3 := HT.out.p0.cell 3
    simp only [List.getElem?_cons_zero, List.getElem?_cons_succ] at b3
    have HSB := Lib.hid hbx
    go_enter Try.func18, Try.ntmps18
    go_wp2_with fail
    go_step3
    go_wp2_with fail
    go_step3
    go_upto_block 0 with fail
    clear hW1 hbx b3
    go_cut [5, 13] from 13 to 38 (fun x5 x13 wx => ∃ (X : Option Addr) (cx : Nat) (L : List ByteArray), x5 = .slice X L.length cx ∧ wx.ownsRow W1.heap.size 9 1 (.slice X L.length cx) L.length (strs L) ∧ Below W1.heap.size W1 wx ∧ goKids (toF l d) l ks = L)
    case first =>
      go_wp2_with fail
      go_loopg [5, 13] ks.length (fun g x5 x13 wr => ∃ (k : Nat) (X : Option Addr) (cx : Nat) (L : List ByteArray), k + g = ks.length ∧ x13 = .int .i64 k ∧ x5 = .slice X L.length cx ∧ wr.ownsRow W1.heap.size 9 1 (.slice X L.length cx) L.length (strs L) ∧ Below W1.heap.size W1 wr ∧ goKids (toF l d) l ks = L ++ goKids (toF l d) l (ks.drop k))
      case atStart => exact ⟨0, none, 0, [], by omega, rfl, rfl, by simpa [strs] using World.ownsRow_nil _ _ 9 1, Below.refl _ _, by simp⟩
      case round =>
        obtain ⟨k, X, cx, L, hkg, rfl, rfl, hown, hbel, hgo⟩ := hrel
        have HO := Lib.hid hown; have HB := Lib.hid hbel; have HGO := Lib.hid hgo
        clear hown hbel hgo
        cases gk with
        | zero =>
          obtain rfl : k = ks.length := by omega
          have HE := Lib.hid (show goKids (toF l d) l ks = L by rw [HGO.out, List.drop_length]; simp [goKids])
          go_wp2_with fail
          go_meet
          exact ⟨X, cx, L, rfl, HO.out, HB.out, HE.out⟩
        | succ g =>
          have hlt : k < ks.length := by omega
          have HTR := Lib.hid (HT.out.below HB.out)
          obtain ⟨ad, hkl, hA, e0, e1, e2, e3⟩ := HTR.out.p1.get hlt
          have hal := World.block_lt_of_cell? wr _ e0
          have hq := HTR.out.p2 ks[k] (List.getElem_mem _)
          have HDR := Lib.hid (List.drop_eq_getElem_cons hkl)
          have hcq : countF d ks[k] ≤ 1000000 := by
            have h1 := sum_take_succ (l := ks.map (countF d)) (k := k) (by simpa using hkl)
            rw [show (ks.map (countF d))[k]'(by simpa using hkl) = countF d ks[k] by simp] at h1
            have h2 := sum_take_le (ks.map (countF d)) (k + 1)
            omega
          have hLl : L.length ≤ 1000000 := by
            have h1 := HLEN.out
            rw [HGO.out, List.length_append] at h1
            omega
          have hql := toF_len l d ks[k]
          have HGN : Hid (allF l ks[k].ms = false → goKids (toF l d) l ks = L ++ goKids (toF l d) l (ks.drop (k + 1))) := Lib.hid (fun h => by rw [HGO.out, HDR.out, goKids_none h])
          have HGS : Hid (allF l ks[k].ms = true → goKids (toF l d) l ks = L ++ (toF l d ks[k] ++ (if ks[k].goes = true then goKids (toF l d) l (ks.drop (k + 1)) else []))) := Lib.hid (fun h => by rw [HGO.out, HDR.out, goKids_some h])
          have HIQ := Lib.hid (fun V (h : okAt d (ks[k]'hkl) V) h2 => HIH.out (ks[k]'hkl) V h h2 hcq)
          subst hA
          generalize ks[k] = q at *
          obtain ⟨A5, c5, A6, c6, hv5, hv6⟩ := okAt_form hq
          have hmq : HasM wr (.slice A5 q.ms.length c5) q.ms := by
            cases d with
            | zero => exact hq.elim
            | succ d => rw [← hv5]; exact hq.1
          have hms5 : q.ms.length ≤ 9223372036854775807 := by obtain ⟨_, _, _, h1, h2⟩ := hmq.form2; omega
          rw [hv5] at e0
          rw [hv6] at e3
          have hval : q.val = .agg #[.slice A5 q.ms.length c5, .string q.nm, .bool q.goes, .slice A6 q.kids.length c6] := by unfold RT.val; rw [hv5, hv6]
          rw [hval] at HIQ
          have HOK := Lib.hid hq
          generalize hqm : q.ms = qms at *
          generalize q.kids.length = lk at *
          generalize q.nm = qn at *
          generalize q.goes = qg at *
          generalize toF l d q = TQ at *
          have HKI0 := Lib.hid (((((((Kept.start w).below HTR.out.bel).add HTR.out.p3.stay).add (okAt_stays HOK.out)).add hmq.stay).alloc (.cells #[.slice A5 qms.length c5, .string qn, .bool qg, .slice A6 lk c6] 28)).add (Blk.mk (heap_alloc_new wr (.cells #[.slice A5 qms.length c5, .string qn, .bool qg, .slice A6 lk c6] 28)) : Blk _ wr.heap.size 28 [.slice A5 qms.length c5, .string qn, .bool qg, .slice A6 lk c6]).stays |>.add (own_stays (HO.out.alloc (.cells #[.slice A5 qms.length c5, .string qn, .bool qg, .slice A6 lk c6] 28))))
          have HBR := Lib.hid (HB.out.alloc HB.out.size (.cells #[.slice A5 qms.length c5, .string qn, .bool qg, .slice A6 lk c6] 28))
          obtain ⟨bq, hbq⟩ : ∃ b, wr.heap.size = b := ⟨_, rfl⟩
          obtain ⟨Wq, hWq⟩ : ∃ W, wr.alloc (.cells #[.slice A5 qms.length c5, .string qn, .bool qg, .slice A6 lk c6] 28) = W := ⟨_, rfl⟩
          rw [hWq, hbq] at HKI0
          rw [hWq] at HBR
          have f0 := HKI0.out.p1.cell 0
          simp only [List.getElem?_cons_zero, List.getElem?_cons_succ] at f0
          clear hq hv5 hv6 hval hmq HTR HO HB hqm
          go_wp2_with fail
          clear hWq hbq f0
          go_loopg [20] qms.length (fun g3 x20 wn => ∃ i : Nat, i + g3 = qms.length ∧ x20 = .int .i64 i ∧ Kept w [fun W => W.ownsRow W1.heap.size 9 1 (.slice X L.length cx) L.length (strs L), fun W => Blk W bq 28 [.slice A5 qms.length c5, .string qn, .bool qg, .slice A6 lk c6], fun W => HasM W (.slice A5 qms.length c5) qms, fun W => okAt d q W, fun W => HasL W (.slice AL l.length cL) l] wn ∧ Below W1.heap.size W1 wn ∧ ∀ m ∈ qms.take i, holdsF l m = true)
          case atStart => exact ⟨0, by omega, rfl, HKI0.out, HBR.out, (fun x hx => by simp at hx)⟩
          case round =>
            obtain ⟨i, hig, rfl, hkept, hbel, hno⟩ := hrel
            have HK := Lib.hid hkept; have HB := Lib.hid hbel; have HNO := Lib.hid hno
            clear hkept hbel hno HKI0 HBR
            cases gk with
            | succ g3 =>
              have hil : i < qms.length := by omega
              obtain ⟨am, hml, hAm, g0, g1, g2⟩ := HK.out.p2.sees.mtc hil
              subst hAm
              have hal2 := World.block_lt_of_cell? wr _ g0
              have HX0 : Hid (holdsF l qms[i] = false → goKids (toF l d) l ks = L ++ goKids (toF l d) l (ks.drop (k + 1))) := Lib.hid (fun h => HGN.out (all_no hml h))
              have HX1 : Hid (holdsF l qms[i] = true → ∀ m ∈ qms.take (i + 1), holdsF l m = true) := Lib.hid (fun h => upto_more (p := fun m => holdsF l m = true) hml HNO.out h)
              generalize qms[i] = m at *
              obtain ⟨ma, mb, mk⟩ := m
              simp only at g0 g1 g2
              have HK_n := Lib.hid (HK.out.alloc (.cells #[.string ma, .string mb, .int .i64 mk] 24)); clear HK; have HK := HK_n; clear HK_n
              have HB_n := Lib.hid (HB.out.alloc HB.out.size (.cells #[.string ma, .string mb, .int .i64 mk] 24)); clear HB; have HB := HB_n; clear HB_n
              obtain ⟨W2, hW2⟩ : ∃ W, wr.alloc (.cells #[.string ma, .string mb, .int .i64 mk] 24) = W := ⟨_, rfl⟩
              have HMB := Lib.hid (Blk.mk (heap_alloc_new wr (.cells #[.string ma, .string mb, .int .i64 mk] 24)) : Blk _ wr.heap.size 24 [.string ma, .string mb, .int .i64 mk])
              obtain ⟨bm, hbm⟩ : ∃ b, wr.heap.size = b := ⟨_, rfl⟩
              rw [hW2] at HK HB HMB
              rw [hbm] at HMB
              have d0 := HMB.out.cell 0
              have d1 := HMB.out.cell 1
              have d2 := HMB.out.cell 2
              simp only [List.getElem?_cons_zero, List.getElem?_cons_succ] at d0 d1 d2
              have HAL : Hid (Calls Try.prog 29 #[.slice AL l.length cL, .slice (some ⟨W2.heap.size, 0, none⟩) 1 1] (W2.alloc (.cells #[.string ma, .string mb, .int .i64 mk] 24)) fun e w' => e = .returned (.bool (holdsF l (ma, mb, mk))) ∧ Below W2.heap.size W2 w') := Lib.hid (by
                have h := all_h (W := W2.alloc (.cells #[.string ma, .string mb, .int .i64 mk] 24)) (v := .slice AL l.length cL) (vm := .slice (some ⟨W2.heap.size, 0, none⟩) 1 1) (l := l) (ms := [(ma, mb, mk)]) (HK.out.alloc _).p4 ⟨_, 1, rfl, (Blk.mk (heap_alloc_new W2 _) : Blk _ W2.heap.size 24 [.string ma, .string mb, .int .i64 mk]).sees rfl (List.prefix_refl _), Nat.le_refl _, by simp⟩
                rw [allF_one] at h
                exact h.mono fun e w' hh => ⟨hh.1, ((Below.refl W2.heap.size W2).alloc (Nat.le_refl _) _).trans (hh.2.mono (by simp))⟩)
              generalize holdsF l (ma, mb, mk) = r at *
              cases r with
              | true =>
                have HN1 := Lib.hid (HX1.out rfl)
                clear HX0 HX1
                go_wp2_with fail
                clear hW2 hbm d0 d1 d2
                (with_reducible refine HAL.out.mono ?_); rintro e wz ⟨rfl, hbz⟩
                have HK_n := Lib.hid (HK.out.below hbz); clear HK; have HK := HK_n; clear HK_n
                have HB_n := Lib.hid (HB.out.trans (hbz.mono HB.out.size)); clear HB; have HB := HB_n; clear HB_n
                clear hbz HAL
                go_wp2_with fail
                go_roundg g3
                case measure => omega
                case rel => exact ⟨i + 1, by omega, by go_num, HK.out, HB.out, HN1.out⟩
              | false =>
                have HN1 := Lib.hid (HX0.out rfl)
                clear HX0 HX1
                go_wp2_with fail
                clear hW2 hbm d0 d1 d2
                (with_reducible refine HAL.out.mono ?_); rintro e wz ⟨rfl, hbz⟩
                have HK_n := Lib.hid (HK.out.below hbz); clear HK; have HK := HK_n; clear HK_n
                have HB_n := Lib.hid (HB.out.trans (hbz.mono HB.out.size)); clear HB; have HB := HB_n; clear HB_n
                clear hbz HAL
                go_wp2_with fail
                go_roundg g
                case measure => omega
                case rel => exact ⟨k + 1, X, cx, L, by omega, by go_num, rfl, HK.out.p0, HB.out, HN1.out⟩
            | zero =>
              have hie : i = qms.length := by omega
              have HE := Lib.hid (HGS.out (all_yes (by rw [hie]; exact Nat.le_refl _) HNO.out))
              clear HGN HGS
              have f0 := HK.out.p1.cell 0
              have f1 := HK.out.p1.cell 1
              have f2 := HK.out.p1.cell 2
              have f3 := HK.out.p1.cell 3
              simp only [List.getElem?_cons_zero, List.getElem?_cons_succ] at f0 f1 f2 f3
              go_wp2_with fail
              (with_reducible refine (HIQ.out _ HK.out.p3 HK.out.p4).mono ?_); rintro e wz ⟨A9, c9, rfl, hoz, hbz, hcz1, hcz2⟩
              have HKZ := Lib.hid (HK.out.below hbz)
              have HBZ := Lib.hid (HB.out.trans (hbz.mono HB.out.size))
              have HSZ := Lib.hid (Sees.of_own hoz)
              clear hoz hbz HK HB f0 f1 f2 f3
              go_wp2_with (at_builtin; refine wpList_append_at rfl (.tmp 30) (.tmp 33) 33 rfl W1.heap.size 9 i0 (.string ⟨#[]⟩) 1 16 Try.underlying33 hi0 hz0 hz1 hz2 rfl (by decide) (.slice X L.length cx) L.length (strs L) rfl HKZ.out.p0 _ A9 TQ.length c9 (strs TQ) rfl HSZ.out (strs_one _) (by unfold maxLen; omega) (by omega) HBZ.out.size ?_)
              intro v3 w3 hown3 hgr3 hwh3
              obtain ⟨A3, c3, rfl, hc3, hc4⟩ := own_slice hown3
              have HB3 := Lib.hid (HBZ.out.grown hgr3 HBZ.out.size (fun g hg => (HKZ.out.p0.lt g hg).1))
              have HBQ := Lib.hid (HKZ.out.p1.grown hgr3 (fun e => own_ne_blk HKZ.out.p0 HKZ.out.p1 (by decide) e.symm))
              have HO3 := Lib.hid (show w3.ownsRow W1.heap.size 9 1 (.slice A3 (L ++ TQ).length c3) (L ++ TQ).length (strs (L ++ TQ)) by rw [List.length_append, strs_append]; exact hown3)
              have HLA := Lib.hid (show L.length + TQ.length = (L ++ TQ).length by rw [List.length_append])
              rw [HLA.out] at hc3
              have f2 := HBQ.out.cell 2
              simp only [List.getElem?_cons_zero, List.getElem?_cons_succ] at f2
              clear hown3 hgr3 hwh3 HKZ HBZ HSZ
              cases qg with
              | true =>
                have HN1 := Lib.hid (show goKids (toF l d) l ks = (L ++ TQ) ++ goKids (toF l d) l (ks.drop (k + 1)) by rw [HE.out, if_pos rfl, List.append_assoc])
                generalize L ++ TQ = L2 at *
                go_wp2_with fail
                go_roundg g
                case measure => omega
                case rel => exact ⟨k + 1, A3, c3, L2, by omega, by go_num, by rw [HLA.out], HO3.out, HB3.out, HN1.out⟩
              | false =>
                have HN1 := Lib.hid (show goKids (toF l d) l ks = L ++ TQ by rw [HE.out, if_neg (by simp), List.append_nil])
                generalize L ++ TQ = L2 at *
                go_wp2_with fail
                go_meet
                exact ⟨A3, c3, L2, by rw [HLA.out], HO3.out, HB3.out, HN1.out⟩
    case rest =>
      obtain ⟨X, cx, L, rfl, hown, hbel, hgo⟩ := hcut
      have HTZ := Lib.hid (HT.out.below hbel)
      have HO := Lib.hid hown; have HGO := Lib.hid hgo
      have hws : w.heap.size ≤ W1.heap.size := HT.out.size
      have hlen : L.length ≤ 1000000 := by
        have h1 := HLEN.out
        rw [hgo] at h1
        omega
      clear hown hbel hgo HIH HLEN HT
      have g1 := HTZ.out.p0.cell 1
      simp only [List.getElem?_cons_zero, List.getElem?_cons_succ] at g1
      by_cases hL : L = []
      · subst hL
        have HE := Lib.hid (show toF l (d + 1) (.mk (.slice Am ms.length cm) ms nm gs (.slice Ak ks.length ck) ks) = [nm] by rw [HC.out, HGO.out, if_pos rfl])
        have HOW := Lib.hid (show (wc.alloc (.cells #[.string nm] 9)).ownsRow w.heap.size 9 1 (.slice (some ⟨wc.heap.size, 0, none⟩) 1 1) 1 (strs [nm]) by
          have h := (Blk.mk (heap_alloc_new wc (.cells #[.string nm] 9)) : Blk _ wc.heap.size 9 [.string nm]).owns (base := w.heap.size) (size := 1) (n := 1) (cap := 1) HTZ.out.size (Nat.le_refl _) (by unfold maxLen; omega) rfl
          simpa [strs] using h)
        have HBZ := Lib.hid (HTZ.out.bel.alloc HTZ.out.size (.cells #[.string nm] 9))
        clear HC HGO
        simp only [List.length_nil]
        go_wp2_with fail
        try rw [Exit.noGoto_ret]
        go_ret
        unfold StrsAns
        rw [HE.out]
        exact ownAns HOW.out HBZ.out rfl (Nat.le_refl _) (by omega)
      · have HE := Lib.hid (show toF l (d + 1) (.mk (.slice Am ms.length cm) ms nm gs (.slice Ak ks.length ck) ks) = L by rw [HC.out, HGO.out, if_neg hL])
        have hl0 : ¬ (L.length : Int) = 0 := by
          have : L.length ≠ 0 := fun h => hL (List.eq_nil_of_length_eq_zero h)
          omega
        have hl1 : ((L.length : Int) == 0) = false := by rw [beq_eq_false_iff_ne]; exact hl0
        have hl2 : ¬ L.length = 0 := by omega
        have HOM := Lib.hid (own_mono HO.out hws)
        obtain ⟨X', cx', j1, j2, j3⟩ := own_slice HO.out
        injection j1 with j1 _ j4; subst j1; subst j4
        clear HC HGO hL HO
        go_wp2_with fail
        try rw [Exit.noGoto_ret]
        go_ret
        unfold StrsAns
        rw [HE.out]
        exact ownAns HOM.out HTZ.out.bel rfl j2 j3
set_option maxHeartbeats 2000000 in
theorem To_any (v : Value) (l : List Lbl) (d : Nat) (r : RT) (w : World) (h : okAt d r w) (hv : HasL w v l) (hc : countF d r ≤ 1000000) :
    Calls Try.prog 9 #[r.val, v] w (StrsAns (if rightT d r = true then toF l d r else []) w) := by
  obtain ⟨A5, c5, A6, c6, hv5, hv6⟩ := okAt_form h
  have hval : r.val = .agg #[.slice A5 r.ms.length c5, .string r.nm, .bool r.goes, .slice A6 r.kids.length c6] := by unfold RT.val; rw [hv5, hv6]
  obtain ⟨AL, cL, rfl⟩ := hv.form
  have HT := Lib.hid (((((Kept.start w).add hv.stay).add (okAt_stays h)).alloc (.cells #[.slice A5 r.ms.length c5, .string r.nm, .bool r.goes, .slice A6 r.kids.length c6] 28)).add (Blk.mk (heap_alloc_new w (.cells #[.slice A5 r.ms.length c5, .string r.nm, .bool r.goes, .slice A6 r.kids.length c6] 28)) : Blk _ w.heap.size 28 [.slice A5 r.ms.length c5, .string r.nm, .bool r.goes, .slice A6 r.kids.length c6]).stays)
  have HR := Lib.hid (fun V (h : okAt d r V) => rightT_any d r V h hc)
  have HC := Lib.hid (fun V (h : okAt d r V) (h2 : HasL V (.slice AL l.length cL) l) => to_any (.slice AL l.length cL) l d r V h h2 hc)
  rw [hval] at HR HC
  rw [hval]
  obtain ⟨bx, hbx⟩ : ∃ b, w.heap.size = b := ⟨_, rfl⟩
  obtain ⟨W1, hW1⟩ : ∃ W, w.alloc (.cells #[.slice A5 r.ms.length c5, .string r.nm, .bool r.goes, .slice A6 r.kids.length c6] 28) = W := ⟨_, rfl⟩
  rw [hW1, hbx] at HT
  clear hv5 hv6 hval h hv
  have hsz := HT.out.size
  have HBX := Lib.hid hbx
  generalize hlm : r.ms.length = lm at *
  generalize hlk : r.kids.length = lk at *
  generalize hqn : r.nm = qn at *
  generalize hqg : r.goes = qg at *
  clear hlm hlk hqn hqg
  have b0 := HT.out.p0.cell 0
  have b1 := HT.out.p0.cell 1
  have b2 := HT.out.p0.cell 2
  have b3 := HT.out.p0.cell 3
  simp only [List.getElem?_cons_zero, List.getElem?_cons_succ] at b0 b1 b2 b3
  generalize rightT d r = rt at *
  generalize toF l d r = TQ at *
  obtain ⟨RES, hRES⟩ : ∃ R, (if rt = true then TQ else []) = R := ⟨_, rfl⟩
  rw [hRES]
  have HRES := Lib.hid hRES
  clear hRES
  go_enter Try.func9, Try.ntmps9
  go_wp2_with fail
  clear hW1 hbx
  (with_reducible refine (HR.out _ HT.out.p1).mono ?_); rintro e wq ⟨rfl, hbq⟩
  have HT_n := Lib.hid (HT.out.below hbq); clear HT; have HT := HT_n; clear HT_n
  clear hbq b0 b1 b2 b3
  have b0 := HT.out.p0.cell 0
  have b1 := HT.out.p0.cell 1
  have b2 := HT.out.p0.cell 2
  have b3 := HT.out.p0.cell 3
  simp only [List.getElem?_cons_zero, List.getElem?_cons_succ] at b0 b1 b2 b3
  cases rt with
  | false =>
    have HE := Lib.hid (show RES = [] from by rw [← HRES.out]; rfl)
    clear HRES
    go_wp2_with fail
    go_ret
    rw [HE.out]
    exact ownAns (by simpa [strs] using World.ownsRow_nil _ _ 9 1) HT.out.bel rfl (Nat.le_refl _) (by omega)
  | true =>
    have HE := Lib.hid (show RES = TQ from by rw [← HRES.out]; rfl)
    clear HRES
    go_wp2_with fail
    (with_reducible refine (HC.out _ HT.out.p1 HT.out.p2).mono ?_); rintro e wz ⟨A9, c9, rfl, hoz, hbz, hcz1, hcz2⟩
    have HO := Lib.hid (own_mono hoz HT.out.size)
    have HBZ := Lib.hid (HT.out.bel.trans (hbz.mono HT.out.size))
    clear hoz hbz b0 b1 b2 b3
    go_wp2_with fail
    go_ret
    rw [HE.out]
    exact ownAns HO.out HBZ.out rfl hcz1 hcz2
end Go.Proofs.Ytddkkfjgdfdcnaa
