/- The walk of MuteOrder. -/
import Derived.Test.YtfcjalojgmpnoaaMuteOrdMath
namespace Go.Proofs.Ytfcjalojgmpnoaa
open Go.ChangeShapes Go.WideShapes Go.ChangeAt Go.RowKit
set_option linter.unusedVariables false
set_option linter.unusedSimpArgs false
set_option maxRecDepth 100000
def moB : List Lbl := [(⟨#[98]⟩, ⟨#[49]⟩)]
def moH (a b : Value) : Inh := ⟨a, mrMA, b, mrMB, .slice none 0 0, []⟩
def moS (a : Value) : Sil := ⟨a, mrMA, 0, 9⟩
theorem mo1 (a b d : Value) : heardF [mrA, moB] 5 [moS d] [moH a b] = [] := by
  show heardF [mrA, moB] 5 [moS (.int .i64 0)] [moH (.int .i64 0) (.int .i64 0)] = []
  decide
theorem mo2 (a b d : Value) : heardF [moB] 5 [moS d] [moH a b] = [moB] := by
  show heardF [moB] 5 [moS (.int .i64 0)] [moH (.int .i64 0) (.int .i64 0)] = [moB]
  decide
theorem mo3 (a b d : Value) : heardF [mrA, moB] 9 [moS d] [moH a b] = [mrA] := by
  show heardF [mrA, moB] 9 [moS (.int .i64 0)] [moH (.int .i64 0) (.int .i64 0)] = [mrA]
  decide
theorem sets_one {V : World} {v : Value} {l : List Lbl} (h : HasL V v l) : SetsAt (V.alloc (.cells #[v] 24)) (some ⟨V.heap.size, 0, none⟩) 1 [(v, l)] :=
  ⟨(Blk.mk (heap_alloc_new V _) : Blk _ V.heap.size 24 [v]).sees rfl (List.prefix_refl _), fun x hx => by
    rw [List.mem_singleton] at hx; subst hx; exact h.below ((Below.refl _ _).alloc (Nat.le_refl _) _)⟩
theorem sets_two {V : World} {v v2 : Value} {l l2 : List Lbl} (h : HasL V v l) (h2 : HasL V v2 l2) : SetsAt (V.alloc (.cells #[v, v2] 24)) (some ⟨V.heap.size, 0, none⟩) 2 [(v, l), (v2, l2)] :=
  ⟨(Blk.mk (heap_alloc_new V _) : Blk _ V.heap.size 24 [v, v2]).sees rfl (List.prefix_refl _), fun x hx => by
    rcases List.mem_cons.1 hx with rfl | hx
    · exact h.below ((Below.refl _ _).alloc (Nat.le_refl _) _)
    · rw [List.mem_singleton] at hx; subst hx; exact h2.below ((Below.refl _ _).alloc (Nat.le_refl _) _)⟩
theorem heard_closed {V : World} {o : Obj} {n : Nat} {A : Option Addr} {rows : List (Value × List Lbl)} {t : Int} {As Ah : Option Addr} {ss : List Sil} {hs : List Inh} {S R : List (List Lbl)} {c c2 c3 n2 n3 : Nat} (hA : SetsAt (V.alloc o) A n rows) (hS : SilsAt (V.alloc o) As n2 ss) (hH : InhsAt (V.alloc o) Ah n3 hs) (hn : n ≤ 1000 ∧ n2 ≤ 1000 ∧ n3 ≤ 1000 ∧ ∀ l ∈ S, l.length ≤ 1000) (hr : setsOf rows = S) (hR : heardF S t ss hs = R) :
    Calls Try.prog 10 #[.slice A n c, .int .i64 t, .slice As n2 c2, .slice Ah n3 c3] (V.alloc o) fun e w' => (∃ A c, e = .returned (.slice A R.length c)) ∧ Below V.heap.size V w' := by
  refine (heard_any A n c rows t As n2 c2 ss Ah n3 c3 hs _ hA hS hH hn.1 (by omega) (by omega) (fun x hx => hn.2.2.2 _ (by rw [← hr]; exact List.mem_map_of_mem hx))).mono fun e w' hh => ?_
  obtain ⟨A', c', rows', h1, h2, h3, h4, _⟩ := hh
  have hl : rows'.length = R.length := by rw [← hR, ← hr, ← h1]; simp [setsOf]
  rw [hl] at h2
  exact ⟨⟨A', c', h2⟩, ((Below.refl V.heap.size V).alloc (Nat.le_refl _) o).trans (h4.mono (by simp))⟩
set_option maxHeartbeats 8000000 in
theorem mute_order (A0 : Option Addr) (n0 c0 : Nat) (z0 : List KSet) (A2 : Option Addr) (n2 c2 : Nat) (z2 : List Inh) (t cut : Int) (w : World)
    (h0 : AKSets w w.heap.size A0 z0) (l0 : z0.length = n0) (p0 : n0 ≤ c0) (q0 : c0 ≤ 9223372036854775807)
    (h2 : AInhs w w.heap.size A2 z2) (l2 : z2.length = n2) (p2 : n2 ≤ c2) (q2 : c2 ≤ 9223372036854775807) (ht : I64 t) (hcut : I64 cut) :
    Calls Try.prog 6 #[.slice A0 n0 c0, .slice A2 n2 c2, .int .i64 t, .int .i64 cut] w fun e w' => e = .returned (.bool true) ∧ Below w.heap.size w w' := by
  obtain ⟨i0, hi0, hz0, hz1, hz2⟩ := info_parts Try.infoLbls
  obtain ⟨K, hK⟩ : ∃ k, min n0 6 = k := ⟨_, rfl⟩
  obtain ⟨k2, hk2⟩ : ∃ k, min n2 4 = k := ⟨_, rfl⟩
  have HZ := Lib.hid h0
  have HZL := Lib.hid l0
  have HT := Lib.hid ((Kept.start w).add ((by have h := h2.1; rw [l2] at h; exact h.take (k := k2) (by omega)) : InhsAt w A2 k2 (z2.take k2)).stays)
  have hk24 : k2 ≤ 4 := by omega
  have hK6 : K ≤ 6 := by omega
  have hKn : K ≤ n0 := by omega
  have HK := Lib.hid hK
  have m2 : (if n2 < 4 then (n2 : Int) else 4) = (k2 : Int) := by split <;> omega
  have HM2 := Lib.hid m2
  have HK2 := Lib.hid hk2
  generalize z2.take k2 = ha at *
  clear h0 h2 l0 l2 hk2 hK m2
  obtain ⟨bm, hbm⟩ : ∃ b, w.heap.size = b := ⟨_, rfl⟩
  have HM0 := Lib.hid (show SMap (w.alloc (.map #[] 0)) bm 0 (fmem []) by rw [← hbm]; exact SMap.made w)
  have HB0 := Lib.hid ((Below.refl w.heap.size w).alloc (Nat.le_refl _) (.map #[] 0))
  have HBM := Lib.hid hbm
  have hmm := @run_makeMap Try.prog
  go_enter Try.func6, Try.ntmps6
  go_upto_block 0 with fail
  clear hbm
  go_cut [9, 11, 12] from 27 to 53 (fun x9 x11 x12 wx => ∃ (X : Option Addr) (cx : Nat) (rows : List (Value × List Lbl)), x9 = .slice X rows.length cx ∧ rows.length ≤ 6 ∧ SetsAt wx X rows.length rows ∧ rows.length ≤ cx ∧ cx ≤ 9223372036854775807 ∧ Below w.heap.size w wx ∧ (setsOf rows).Nodup ∧ ∀ x ∈ setsOf rows, okSet x)
  case first =>
   go_wp2_with fail
   go_loopg [9, 11] K (fun g x9 x11 wr => ∃ (k : Nat) (X : Option Addr) (cx : Nat) (rows : List (Value × List Lbl)), k + g = K ∧ x11 = .int .i64 k ∧ x9 = .slice X rows.length cx ∧ rows.length ≤ k ∧ OwnRows w.heap.size (.slice X rows.length cx) rows wr ∧ SMap wr bm rows.length (fmem (setsOf rows)) ∧ Below w.heap.size w wr ∧ (setsOf rows).Nodup ∧ ∀ x ∈ setsOf rows, okSet x)
   case atStart => exact ⟨0, none, 0, [], by omega, rfl, rfl, Nat.le_refl _, OwnRows.nil _ _, HM0.out, HB0.out, by simp [setsOf], by simp [setsOf]⟩
   case round =>
     obtain ⟨k, X, cx, rows, hkg, rfl, rfl, hrl, hrow, hmap, hbel, hnd, hoks⟩ := hrel
     have HR := Lib.hid hrow; have HB := Lib.hid hbel; have HND := Lib.hid hnd; have HOK := Lib.hid hoks; have HM := Lib.hid hmap
     have hws := hbel.size
     clear hrow hbel hnd hoks hmap HM0 HB0
     cases gk with
     | succ g =>
       have hkl : k < z0.length := by rw [HZL.out]; omega
       have hk6 : k < 6 := by omega
       have hkn : k < n0 := by omega
       obtain ⟨ad, hAe, had, e0, e1, hok⟩ := (HZ.out.below HB.out) k hkl
       have hal := World.block_lt_of_cell? wr _ e0
       have hls := okSet_of z0[k]
       have HKS := Lib.hid (keepset_any z0[k] w.heap.size wr hok hws)
       subst hAe
       unfold KSet.val at HKS
       generalize setF z0[k] = l at *
       generalize z0[k].A = Aa at *
       generalize z0[k].n = na at *
       generalize z0[k].c = ca at *
       generalize z0[k].A2 = Ab at *
       generalize z0[k].n2 = nb at *
       generalize z0[k].c2 = cb at *
       clear hok
       go_wp2_with fail
       (with_reducible refine HKS.out.mono ?_); rintro e wq hcl
       obtain ⟨A5, c5, rfl, hol, hbq⟩ := ownL_of hcl
       have HRQ := Lib.hid (HR.out.below hbq)
       have HBQ := Lib.hid (HB.out.trans (hbq.mono hws))
       have HMQ := Lib.hid (HM.out.below hbq)
       have HOQ := Lib.hid hol
       clear hcl hbq hol HR HB HM HKS
       have hts := text_size hls
       have htk := text_key (printL l)
       have HPV := Lib.hid (fun V (h : OwnL V (.slice A5 l.length c5) l) => print_v h.hasL)
       by_cases hin : l ∈ setsOf rows
       · have hfm := fmem_in hin
         obtain ⟨ps, hps⟩ : ∃ ps : ByteArray, (⟨(printL l).toArray⟩ : ByteArray) = ps := ⟨_, rfl⟩
         rw [hps] at hts htk HPV
         rw [← htk] at hfm
         clear hps htk
         go_wp2_with fail
         (with_reducible refine (HPV.out _ HOQ.out).mono ?_); rintro e w5 ⟨rfl, hb5⟩
         have HR5 := Lib.hid (HRQ.out.below hb5)
         have HB5 := Lib.hid (HBQ.out.trans (hb5.mono HBQ.out.size))
         have HM5 := Lib.hid (HMQ.out.below hb5)
         have hlk := HM5.out.look hts
         rw [hfm] at hlk
         clear hb5 HRQ HBQ HMQ HOQ
         go_wp2_with fail
         go_roundg g
         case measure => omega
         case rel => exact ⟨k + 1, X, cx, rows, by omega, by go_num, rfl, by omega, HR5.out, HM5.out, HB5.out, HND.out, HOK.out⟩
       · have hfm := fmem_out HOK.out hls hin
         have HND2 := Lib.hid (nodup_push HND.out hin)
         have HOK2 := Lib.hid (show ∀ x ∈ setsOf rows ++ [l], okSet x from fun x hx => by
           rcases List.mem_append.1 hx with hx | hx
           · exact HOK.out x hx
           · rw [List.mem_singleton] at hx; subst hx; exact hls)
         have HFP := Lib.hid (fmem_push (setsOf rows) l)
         obtain ⟨ps, hps⟩ : ∃ ps : ByteArray, (⟨(printL l).toArray⟩ : ByteArray) = ps := ⟨_, rfl⟩
         rw [hps] at hts htk HPV
         rw [← htk] at hfm HFP
         clear hps htk HND HOK hin
         go_wp2_with fail
         (with_reducible refine (HPV.out _ HOQ.out).mono ?_); rintro e w5 ⟨rfl, hb5⟩
         have HR5 := Lib.hid (HRQ.out.below hb5)
         have HB5 := Lib.hid (HBQ.out.trans (hb5.mono HBQ.out.size))
         have HM5 := Lib.hid (HMQ.out.below hb5)
         have HO5 := Lib.hid (HOQ.out.below hb5)
         have hlk := HM5.out.look hts
         rw [hfm] at hlk
         clear hb5 HRQ HBQ HMQ HOQ
         go_wp2_with fail
         clear hlk
         (with_reducible refine (HPV.out _ HO5.out).mono ?_); rintro e w6 ⟨rfl, hb6⟩
         have HR6 := Lib.hid (HR5.out.below hb6)
         have HB6 := Lib.hid (HB5.out.trans (hb6.mono HB5.out.size))
         have HM6 := Lib.hid (HM5.out.below hb6)
         have HO6 := Lib.hid (HO5.out.below hb6)
         clear hb6 HR5 HB5 HM5 HO5
         obtain ⟨w7, hrun, hm7, hg7⟩ := HM6.out.put (by omega) hts
         rw [HFP.out] at hm7
         have HRUN := Lib.hid hrun
         have HR7 := Lib.hid (HR6.out.put HM6.out hg7)
         have HO7 := Lib.hid (HO6.out.put HM6.out hg7)
         have HM7 := Lib.hid hm7
         have HB7 := Lib.hid (HB6.out.grown hg7 HB6.out.size (fun g hg => by injection hg with hg; have := HBM.out; omega))
         clear hrun hm7 hg7 HR6 HB6 HM6 HO6
         go_upto_region 9 with (at_mapUpdate; refine wpList_put_smap rfl (.tmp 47) (.tmp 49) (.const (.bool true)) 52 rfl (.map (some bm)) (.string ps) (.bool true) rfl rfl rfl w7 HRUN.out ?_)
         have HRW := Lib.hid (HR7.out.below ((Below.refl _ w7).alloc (Nat.le_refl _) (.cells #[.slice A5 l.length c5] 24)))
         have HOL := Lib.hid (HO7.out.below ((Below.refl _ w7).alloc (Nat.le_refl _) (.cells #[.slice A5 l.length c5] 24)))
         have HMW := Lib.hid (HM7.out.below ((Below.refl _ w7).alloc (Nat.le_refl _) (.cells #[.slice A5 l.length c5] 24)))
         have HX := Lib.hid (show Sees (w7.alloc (.cells #[.slice A5 l.length c5] 24)) (w7.alloc (.cells #[.slice A5 l.length c5] 24)).heap.size 1 (some ⟨w7.heap.size, 0, none⟩) 1 [.slice A5 l.length c5] from (Blk.mk (heap_alloc_new w7 _) : Blk _ w7.heap.size 24 [.slice A5 l.length c5]).sees rfl (List.prefix_refl _))
         have HBA := Lib.hid (HB7.out.alloc HB7.out.size (.cells #[.slice A5 l.length c5] 24))
         have hsq := HB7.out.size
         have hbx : ∀ g, (Value.slice X rows.length cx).ownBlock = some g → w.heap.size ≤ g := fun g hg => (HRW.out.own.lt g hg).1
         have HBX := Lib.hid hbx
         clear hbx HR7 HO7 HM7 HB7 HRUN HPV
         go_wp2_with (at_builtin; refine wpList_append_at rfl (.tmp 50) (.tmp 52) 32 rfl w.heap.size 24 i0 (.slice none 0 0) 1 24 Try.underlying32 hi0 hz0 hz1 hz2 rfl (by decide) (.slice X rows.length cx) rows.length (rows.map Prod.fst) rfl HRW.out.own _ _ 1 1 [.slice A5 l.length c5] rfl HX.out (by intro u hu; rw [List.mem_singleton] at hu; subst hu; rfl) (by unfold maxLen; omega) (by omega) (by simp; omega) ?_)
         intro v3 w8 hown3 hgr3 hwh3
         obtain ⟨A6, c6, rfl, hc3, hc4⟩ := own_slice hown3
         have HRN := Lib.hid (HRW.out.push HOL.out hown3 hgr3)
         have HB3 := Lib.hid (HBA.out.grown hgr3 (by simp; omega) HBX.out)
         have HMN := Lib.hid (HMW.out.kept hgr3 (fun e => smap_ne HMW.out HRW.out.own _ e.symm rfl))
         have HLN := Lib.hid (show (rows ++ [(Value.slice A5 l.length c5, l)]).length = rows.length + 1 by simp)
         have HSS := Lib.hid (setsOf_push rows (.slice A5 l.length c5) l)
         clear hown3 hgr3 hwh3 HX HBA HBX HRW HOL HMW
         generalize rows ++ [(Value.slice A5 l.length c5, l)] = rows2 at *
         go_wp2_with fail
         go_roundg g
         case measure => omega
         case rel => exact ⟨k + 1, A6, c6, rows2, by omega, by go_num, by rw [HLN.out], by rw [HLN.out]; omega, by rw [HLN.out]; exact HRN.out, by rw [HLN.out, HSS.out]; exact HMN.out, HB3.out, by rw [HSS.out]; exact HND2.out, by rw [HSS.out]; exact HOK2.out⟩
     | zero =>
       obtain rfl : k = K := by omega
       have hss := HR.out.sets
       obtain ⟨X', cx', g1, g2, g3⟩ := own_slice HR.out.own
       injection g1 with g1 _ g4; subst g1; subst g4
       have HSS := Lib.hid hss
       have hn0 := HK.out
       clear hss
       by_cases h6 : n0 ≤ 6
       · obtain rfl : n0 = k := by omega
         clear hn0
         go_wp2_with fail
         go_meet
         exact ⟨X, cx, rows, rfl, by omega, HSS.out, g2, g3, HB.out, HND.out, HOK.out⟩
       · obtain rfl : k = 6 := by omega
         have h7 : 6 < n0 := by omega
         clear hn0
         go_wp2_with fail
         go_meet
         exact ⟨X, cx, rows, rfl, by omega, HSS.out, g2, g3, HB.out, HND.out, HOK.out⟩
  case rest =>
    obtain ⟨X, cx, rows, rfl, hr6, hss, hc1, hc2, hbel, hnd, hoks⟩ := hcut
    have HT2 := Lib.hid ((HT.out.below hbel).add hss.stays)
    have HND := Lib.hid hnd; have HOK := Lib.hid hoks
    clear hss hbel hnd hoks HT HZ HK HM0 HB0 HBM
    have m2 : min (n2 : Int) 4 = (k2 : Int) := by have := HK2.out; omega
    have y2 : (k2 : Int) ≤ c2 := by have := HK2.out; omega
    have y4 : (0 : Int) ≤ k2 := by omega
    go_wp2_with fail
    have hcn := nWithin_in cut (lo := 0) (hi := (rows.length : Int)) (by omega)
    (with_reducible refine (within_any cut 0 rows.length _ hcut (by omega) (by omega) (by omega)).mono ?_); rintro e wq ⟨rfl, rfl⟩
    generalize nWithin cut 0 (rows.length : Int) = c' at *
    obtain ⟨c, rfl⟩ := Int.eq_ofNat_of_zero_le hcn.1
    have hcr : c ≤ rows.length := by omega
    clear hcn
    go_upto_region 12 with fail
    go_cut [15] (fun x15 wx => ∃ (A9 : Option Addr) (c9 : Nat), x15 = .slice A9 rows.length c9 ∧ Kept w [fun W => SetsAt W A9 rows.length (rows.drop c ++ rows.take c), fun W => SetsAt W X rows.length rows, fun W => InhsAt W A2 k2 ha] wx)
    case first =>
      have tok67 : True := trivial
      have tok71 : True := trivial
      obtain ⟨D, hD⟩ : ∃ D, wc.drew = D := ⟨_, rfl⟩
      have hDs : D.heap.size = wc.heap.size := by rw [← hD]; rfl
      have HBD : Hid (Below wc.heap.size wc D) := Lib.hid (by rw [← hD]; exact (Below.refl _ _).drew)
      have HE := Lib.hid (World.ownsRow_made (base := wc.heap.size) (e := 24) (size := 1) D #[] 0 (by omega) (by unfold maxLen; omega) rfl)
      have HBE := Lib.hid (HBD.out.alloc (by omega) (.cells #[] 24))
      obtain ⟨Y, hY⟩ : ∃ Y, (if cx = c then X else X.map (·.add c)) = Y := ⟨_, rfl⟩
      obtain ⟨d, hd⟩ : ∃ d, rows.length - c = d := ⟨_, rfl⟩
      have HSD := Lib.hid (show Sees wc wc.heap.size 1 Y d ((rows.map Prod.fst).drop c) by
        have h := HT2.out.p0.row.drop (k := c) (cap := cx) hcr hc1
        rw [Nat.mul_one, hY, hd] at h; exact h)
      have HSC := Lib.hid (show Sees wc wc.heap.size 1 X c ((rows.map Prod.fst).take c) by
        have h := HT2.out.p0.row.take (k := c) hcr
        rw [Nat.mul_one] at h; exact h)
      have hone : ∀ u ∈ rows.map Prod.fst, u.oneCell' = true := fun u hu => by
        obtain ⟨x, hx, rfl⟩ := List.mem_map.1 hu
        obtain ⟨A, c, e⟩ := (HT2.out.p0.each x hx).form
        rw [e]; rfl
      have HO1 := Lib.hid (fun u (hu : u ∈ (rows.map Prod.fst).drop c) => hone u (List.mem_of_mem_drop hu))
      have HO2 := Lib.hid (fun u (hu : u ∈ (rows.map Prod.fst).take c) => hone u (List.mem_of_mem_take hu))
      have hdl : d ≤ 6 := by omega
      have x1 : (c : Int) ≤ rows.length := by omega
      have x2 : (c : Int) ≤ cx := by omega
      have x3 : (0 : Int) ≤ c := by omega
      have HD := Lib.hid hd
      clear hone
      go_region_law (first
        | (have tk := tok67; refine step_append_rw rfl (.tmp 63) (.tmp 66) 32 rfl wc.heap.size 24 i0 (.slice none 0 0) 1 24 Try.underlying32 hi0 hz0 hz1 hz2 rfl (by decide) (.slice (some ⟨D.heap.size, 0, none⟩) 0 0) 0 [] (by first | rfl | (rw [hDs]; rfl) | (simp [Act.eval]; done)) HE.out _ Y d (cx - c) ((rows.map Prod.fst).drop c) (by first | rfl | (simp [Act.eval, hd, hY]; done)) (HSD.out.below HBE.out) HO1.out (by unfold maxLen; omega) (by omega) (by simp; omega) ?_; intro A7 c7 w7 hown7 hgr7; have HO7 := Lib.hid hown7; have HB7 := Lib.hid (HBE.out.grown hgr7 (by simp; omega) (by simp [Value.ownBlock]; omega)); clear tok67 tk hown7 hgr7)
        | (have tk := tok71; refine step_append_rw rfl (.tmp 67) (.tmp 70) 32 rfl wc.heap.size 24 i0 (.slice none 0 0) 1 24 Try.underlying32 hi0 hz0 hz1 hz2 rfl (by decide) _ _ _ (by first | rfl | (simp [Act.eval]; done)) HO7.out _ X c cx ((rows.map Prod.fst).take c) (by first | rfl | (simp [Act.eval]; done)) (HSC.out.below HB7.out) HO2.out (by unfold maxLen; omega) (by omega) HB7.out.size ?_; intro A8 c8 w8 hown8 hgr8; have HO8 := Lib.hid hown8; have HB8 := Lib.hid (HB7.out.grown hgr8 HB7.out.size (fun k hk => (HO7.out.lt k hk).1)); clear tok71 tk hown8 hgr8)
        | fail)
      all_goals
        have hln : 0 + d + c = rows.length := by have := HD.out; omega
        have h8 := HO8.out
        rw [hln, List.nil_append] at h8
        have HSN := Lib.hid (show SetsAt w8 A8 rows.length (rows.drop c ++ rows.take c) from by
          refine ⟨?_, fun x hx => ?_⟩
          · have h := Sees.of_own h8
            rwa [show (rows.drop c ++ rows.take c).map Prod.fst = (rows.map Prod.fst).drop c ++ (rows.map Prod.fst).take c by rw [List.map_append, List.map_drop, List.map_take]]
          · refine (HT2.out.below HB8.out).p0.each x ?_
            rcases List.mem_append.1 hx with hx | hx
            · exact List.mem_of_mem_drop hx
            · exact List.mem_of_mem_take hx)
        have HK8 := Lib.hid ((HT2.out.below HB8.out).add HSN.out.stays)
        clear HO7 HB7 HO8 HB8 HSN h8 hD
        go_wp2_with fail
        go_meet
        exact ⟨A8, c8, by rw [show d + c = rows.length by have := HD.out; omega], HK8.out⟩
    case rest =>
      obtain ⟨A9, c9, rfl, hkept⟩ := hcut
      have HT := Lib.hid hkept
      clear hkept HT2
      obtain ⟨bh, hbh⟩ : ∃ b, wc.heap.size = b := ⟨_, rfl⟩
      have HM0 := Lib.hid (show SSet (wc.alloc (.map #[] 0)) bh 0 (fmem []) 0 by rw [← hbh]; exact SSet.made wc)
      have HB0 := Lib.hid ((Below.refl wc.heap.size wc).alloc (Nat.le_refl _) (.map #[] 0))
      have HHA := Lib.hid (fun V (h : Kept w [fun W => SetsAt W A9 rows.length (rows.drop c ++ rows.take c), fun W => SetsAt W X rows.length rows, fun W => InhsAt W A2 k2 ha] V) => heard_any X rows.length cx rows t none 0 0 [] A2 k2 c2 ha V h.p1 SilsAt.nil h.p2 (by omega) (by omega) (by omega) (fun x hx => by have := (HOK.out x.2 (List.mem_map_of_mem hx)).2; omega))
      have hrt : setsOf (rows.drop c ++ rows.take c) = (setsOf rows).drop c ++ (setsOf rows).take c := by unfold setsOf; rw [List.map_append, List.map_drop, List.map_take]
      have HHB := Lib.hid (fun V (h : Kept w [fun W => SetsAt W A9 rows.length (rows.drop c ++ rows.take c), fun W => SetsAt W X rows.length rows, fun W => InhsAt W A2 k2 ha] V) => heard_any A9 rows.length c9 (rows.drop c ++ rows.take c) t none 0 0 [] A2 k2 c2 ha V h.p0 SilsAt.nil h.p2 (by omega) (by omega) (by omega) (fun x hx => by
        have hm : x ∈ rows := by
          rcases List.mem_append.1 hx with hx | hx
          · exact List.mem_of_mem_drop hx
          · exact List.mem_of_mem_take hx
        have := (HOK.out x.2 (List.mem_map_of_mem hm)).2; omega))
      rw [hrt] at HHB
      have HTL := Lib.hid (turned_len (setsOf rows) c t [] ha)
      have HTI := Lib.hid (turned_in (S := setsOf rows) (c := c) (t := t) (ss := []) (hs := ha))
      have HHN := Lib.hid (heardF_nodup (t := t) (ss := []) (hs := ha) HND.out)
      have HHO := Lib.hid (fun x (hx : x ∈ heardF (setsOf rows) t [] ha) => HOK.out x (heardF_sub x hx))
      have hhl : (heardF (setsOf rows) t [] ha).length ≤ 6 := by
        have h := List.length_filter_le (hearOne (setsOf rows) t [] ha) (setsOf rows)
        have h2 : (setsOf rows).length = rows.length := by simp [setsOf]
        show ((setsOf rows).filter (hearOne (setsOf rows) t [] ha)).length ≤ 6
        omega
      clear hrt
      generalize heardF (setsOf rows) t [] ha = H at *
      generalize heardF ((setsOf rows).drop c ++ (setsOf rows).take c) t [] ha = HL at *
      clear HND HOK
      go_wp2_with fail
      (with_reducible refine (HHA.out _ (HT.out.alloc _)).mono ?_); rintro e w3 ⟨Ah, ch, rowsH, hsH, rfl, hoH, hbH, hcH1, hcH2⟩
      have HMH := Lib.hid (HM0.out.below hbH)
      have HBH := Lib.hid (HB0.out.trans (hbH.mono (by simp)))
      have HOH := Lib.hid hoH
      have HSH := Lib.hid hsH
      have hNl : rowsH.length = H.length := by rw [← hsH]; simp [setsOf]
      have HNL := Lib.hid hNl
      have HBW := Lib.hid hbh
      have hBO : wc.heap.size ≤ (wc.alloc (.map #[] 0)).heap.size := by simp
      clear hoH hbH hsH HM0 HB0 HHA hbh
      generalize (wc.alloc (.map #[] 0)).heap.size = bo at *
      have hNN : rowsH.length ≤ 6 := by omega
      go_wp2_with fail
      go_loopg [78] rowsH.length (fun g x78 wr => ∃ k : Nat, k + g = rowsH.length ∧ x78 = .int .i64 k ∧ Below wc.heap.size wc wr ∧ OwnRows bo (.slice Ah rowsH.length ch) rowsH wr ∧ SSet wr bh k (fmem (H.take k)) k)
      case atStart => exact ⟨0, by omega, rfl, HBH.out, HOH.out, by rw [List.take_zero]; exact HMH.out⟩
      case round =>
        obtain ⟨k, hkg, rfl, hbel, horow, hmap⟩ := hrel
        have HB := Lib.hid hbel; have HO := Lib.hid horow; have HM := Lib.hid hmap
        clear hbel horow hmap HMH HBH HOH
        cases gk with
        | succ g =>
          have hkr : k < rowsH.length := by omega
          have hkH : k < H.length := by omega
          obtain ⟨ad, _, hAe, e0⟩ := HO.out.sets.get hkr
          subst hAe
          have hel := HO.out.each rowsH[k] (List.getElem_mem _)
          have hsk : rowsH[k].2 = H[k] := by
            have h : (setsOf rowsH)[k]'(by rw [HSH.out]; exact hkH) = H[k] := by simp only [HSH.out]
            rw [← h]; simp [setsOf]
          have hok := HHO.out H[k] (List.getElem_mem _)
          have hfm := fmem_out (S := H.take k) (fun x hx => HHO.out x (List.mem_of_mem_take hx)) hok (nodup_at HHN.out hkH)
          have HFP := Lib.hid (fmem_push (H.take k) H[k])
          have HTK := Lib.hid (List.take_succ_eq_append_getElem hkH)
          have hal := World.block_lt_of_cell? wr _ e0
          generalize rowsH[k] = p at *
          obtain ⟨v, l⟩ := p
          simp only at e0 hel hsk
          subst hsk
          obtain ⟨A0', c0', rfl⟩ := hel.hasL.form
          have HEL := Lib.hid hel
          have hts := text_size hok
          have htk := text_key (printL H[k])
          have HPV := Lib.hid (fun V (h : OwnL V (.slice A0' H[k].length c0') H[k]) => print_v h.hasL)
          rw [← HTK.out] at HFP
          clear hel hok HTK
          generalize H[k] = l at *
          obtain ⟨ps, hps⟩ : ∃ ps : ByteArray, (⟨(printL l).toArray⟩ : ByteArray) = ps := ⟨_, rfl⟩
          rw [hps] at hts htk HPV
          rw [← htk] at hfm HFP
          clear hps htk
          go_wp2_with fail
          (with_reducible refine (HPV.out _ HEL.out).mono ?_); rintro e w5 ⟨rfl, hb5⟩
          have HB5 := Lib.hid (HB.out.trans (hb5.mono HB.out.size))
          have HO5 := Lib.hid (HO.out.below hb5)
          have HM5 := Lib.hid (HM.out.below hb5)
          clear hb5 HB HO HM HEL HPV
          obtain ⟨w7, hrun, hm7, hg7⟩ := HM5.out.put (by omega) hts
          rw [HFP.out, if_neg (by rw [hfm]; simp)] at hm7
          have HRUN := Lib.hid hrun
          have HO7 := Lib.hid (HO5.out.put HM5.out.smap hg7)
          have HM7 := Lib.hid hm7
          have HB7 := Lib.hid (HB5.out.grown hg7 HB5.out.size (fun g hg => by injection hg with hg; have := HBW.out; omega))
          clear hrun hm7 hg7 HO5 HM5 HB5
          go_wp2_with (at_mapUpdate; refine wpList_put_smap rfl (.tmp 82) (.tmp 84) (.const (.bool true)) 52 rfl (.map (some bh)) (.string ps) (.bool true) rfl rfl rfl w7 HRUN.out ?_)
          go_roundg g
          case measure => omega
          case rel => exact ⟨k + 1, by omega, by go_num, HB7.out, HO7.out, HM7.out⟩
        | zero =>
          obtain rfl : k = rowsH.length := by omega
          have HM2 := Lib.hid (show SSet wr bh H.length (fmem H) H.length by
            have h := HM.out
            rwa [HNL.out, List.take_of_length_le (Nat.le_refl _)] at h)
          have HTQ := Lib.hid (HT.out.below HB.out)
          have hHl : H.length ≤ 6 := by have := HNL.out; omega
          clear HM HO HB HT
          go_wp2_with fail
          (with_reducible refine (HHB.out _ HTQ.out).mono ?_); rintro e w4 ⟨Al, cl, rowsL, hsL, rfl, hoL, hbL, hcL1, hcL2⟩
          have HML := Lib.hid (HM2.out.below hbL)
          have HTL2 := Lib.hid (((Kept.start w).below (HTQ.out.below hbL).bel |>.add hoL.sets.stays).add (P := fun W => SMap W bh H.length (fmem H)) (fun W hb => HML.out.smap.below hb))
          have hLl : rowsL.length = H.length := by
            have h1 : rowsL.length = HL.length := by rw [← hsL]; simp [setsOf]
            have := HTL.out; omega
          have HSL := Lib.hid hsL
          have HLL := Lib.hid hLl
          clear hoL hbL hsL HM2 HTQ HHB
          rw [hLl] at hcL1 HTL2
          try rw [hLl]
          clear hLl
          go_wp2_with (at_len; refine wpList_len_sset rfl (.tmp 92) rfl bh H.length H.length _ rfl HML.out ?_)
          clear HML
          go_loopg [97] H.length (fun g x97 wr => ∃ k : Nat, k + g = H.length ∧ x97 = .int .i64 k ∧ Kept w [fun W => SMap W bh H.length (fmem H), fun W => SetsAt W Al H.length rowsL] wr)
          case atStart => exact ⟨0, by omega, rfl, HTL2.out⟩
          case round =>
            obtain ⟨k, hkg, rfl, hkept⟩ := hrel
            have HT := Lib.hid hkept
            clear hkept HTL2
            cases gk with
            | succ g =>
              have hkr : k < H.length := by omega
              have hkl : k < rowsL.length := by rw [HLL.out]; exact hkr
              obtain ⟨ad, _, hAe, e0⟩ := HT.out.p1.get hkr
              subst hAe
              have hel := HT.out.p1.each rowsL[k] (List.getElem_mem _)
              have hin : rowsL[k].2 ∈ H := HTI.out _ (by rw [← HSL.out]; exact List.mem_map_of_mem (List.getElem_mem _))
              have hok := HHO.out _ hin
              have hfm := fmem_in hin
              have hal := World.block_lt_of_cell? wr _ e0
              generalize rowsL[k] = p at *
              obtain ⟨v, l⟩ := p
              simp only at e0 hel hin hok hfm
              obtain ⟨A0', c0', rfl⟩ := hel.form
              have HT_n := Lib.hid (HT.out.add hel.stay); clear HT; have HT := HT_n; clear HT_n
              have hts := text_size hok
              have htk := text_key (printL l)
              have HPV := Lib.hid (fun V (h : Kept w [fun W => HasL W (.slice A0' l.length c0') l, fun W => SMap W bh H.length (fmem H), fun W => SetsAt W (some ad) H.length rowsL] V) => print_v h.p0)
              clear hel hok hin
              obtain ⟨ps, hps⟩ : ∃ ps : ByteArray, (⟨(printL l).toArray⟩ : ByteArray) = ps := ⟨_, rfl⟩
              rw [hps] at hts htk HPV
              rw [← htk] at hfm
              clear hps htk
              go_wp2_with fail
              (with_reducible refine (HPV.out _ HT.out).mono ?_); rintro e w5 ⟨rfl, hbq⟩
              have HT_n := Lib.hid (HT.out.below hbq); clear HT; have HT := HT_n; clear HT_n
              have hlk := HT.out.p1.look hts
              rw [hfm] at hlk
              clear hbq HPV
              go_wp2_with fail
              go_roundg g
              case measure => omega
              case rel => exact ⟨k + 1, by omega, by go_num, HT.out.tail⟩
            | zero =>
              have HF := Lib.hid ((Kept.start w).below HT.out.bel)
              clear HT HSL HLL HTI HHO HHN HTL
              have HT0 := Lib.hid (show Kept w [fun W => HasL W (.slice (some ⟨wr.heap.size + 1, 0, none⟩) 1 1) moB, fun W => HasL W (.slice (some ⟨wr.heap.size, 0, none⟩) 1 1) mrA] ((wr.alloc (.cells #[.string ⟨#[97]⟩, .string ⟨#[120]⟩] 23)).alloc (.cells #[.string ⟨#[98]⟩, .string ⟨#[49]⟩] 23)) by
                have k1 := (HF.out.alloc (.cells #[.string ⟨#[97]⟩, .string ⟨#[120]⟩] 23)).add (P := fun W => HasL W (.slice (some ⟨wr.heap.size, 0, none⟩) 1 1) mrA) (HasL.stay ⟨_, 1, rfl, (Blk.mk (heap_alloc_new wr _) : Blk _ wr.heap.size 23 [.string ⟨#[97]⟩, .string ⟨#[120]⟩]).sees rfl (List.prefix_refl _), Nat.le_refl _, by simp⟩)
                refine (k1.alloc _).add (HasL.stay ⟨_, 1, rfl, ?_, Nat.le_refl _, by simp⟩)
                have h := (Blk.mk (heap_alloc_new (wr.alloc (.cells #[.string ⟨#[97]⟩, .string ⟨#[120]⟩] 23)) _) : Blk _ _ 23 [.string ⟨#[98]⟩, .string ⟨#[49]⟩]).sees (size := 2) (n := 1) (xs := lbls moB) rfl (List.prefix_refl _)
                rw [show (wr.alloc (.cells #[.string ⟨#[97]⟩, .string ⟨#[120]⟩] 23)).heap.size = wr.heap.size + 1 by simp] at h
                exact h)
              obtain ⟨ga, hga⟩ : ∃ b, wr.heap.size = b := ⟨_, rfl⟩
              obtain ⟨gb, hgb⟩ : ∃ b, wr.heap.size + 1 = b := ⟨_, rfl⟩
              rw [hgb, hga] at HT0
              rw [hga] at hgb
              go_wp2_with fail
              clear hga hgb
              (with_reducible refine (eq18_any _ _ _).mono ?_); rintro e w5 ⟨g1, rfl, hm1, hbq⟩
              have HT0_n := Lib.hid ((HT0.out.below hbq).add hm1.stay); clear HT0; have HT0 := HT0_n; clear HT0_n
              clear hm1 hbq
              go_wp2_with fail
              (with_reducible refine (eq18_any _ _ _).mono ?_); rintro e w6 ⟨g2, rfl, hm1, hbq⟩
              have HT0_n := Lib.hid ((HT0.out.below hbq).add hm1.stay); clear HT0; have HT0 := HT0_n; clear HT0_n
              clear hm1 hbq
              have HT1 := Lib.hid (show Kept w [fun W => InhsAt W (some ⟨w6.heap.size, 0, none⟩) 1 [moH (.slice (some ⟨g1, 0, none⟩) 1 1) (.slice (some ⟨g2, 0, none⟩) 1 1)], fun W => HasL W (.slice (some ⟨gb, 0, none⟩) 1 1) moB, fun W => HasL W (.slice (some ⟨ga, 0, none⟩) 1 1) mrA] (w6.alloc (.cells #[.slice (some ⟨g1, 0, none⟩) 1 1, .slice (some ⟨g2, 0, none⟩) 1 1, .slice none 0 0] 29)) by
                have k0 := HT0.out.alloc (.cells #[.slice (some ⟨g1, 0, none⟩) 1 1, .slice (some ⟨g2, 0, none⟩) 1 1, .slice none 0 0] 29)
                exact ((((Kept.start w).below k0.bel).add k0.p3.stay).add k0.p2.stay).add (InhsAt.stays (inhs_one (moH (.slice (some ⟨g1, 0, none⟩) 1 1) (.slice (some ⟨g2, 0, none⟩) 1 1)) HT0.out.p1 HT0.out.p0 ⟨none, 0, rfl, Sees.nil, Nat.le_refl _, by simp⟩)))
              obtain ⟨gh, hgh⟩ : ∃ b, w6.heap.size = b := ⟨_, rfl⟩
              rw [hgh] at HT1
              clear HT0
              go_wp2_with fail
              clear hgh
              (with_reducible refine (eq18_any _ _ _).mono ?_); rintro e w7 ⟨g4, rfl, hm1, hbq⟩
              have HT2 := Lib.hid ((HT1.out.below hbq).add hm1.stay)
              clear hm1 hbq HT1
              have HT3 := Lib.hid (show Kept w [fun W => SilsAt W (some ⟨w7.heap.size, 0, none⟩) 1 [moS (.slice (some ⟨g4, 0, none⟩) 1 1)], fun W => InhsAt W (some ⟨gh, 0, none⟩) 1 [moH (.slice (some ⟨g1, 0, none⟩) 1 1) (.slice (some ⟨g2, 0, none⟩) 1 1)], fun W => HasL W (.slice (some ⟨gb, 0, none⟩) 1 1) moB, fun W => HasL W (.slice (some ⟨ga, 0, none⟩) 1 1) mrA] (w7.alloc (.cells #[.slice (some ⟨g4, 0, none⟩) 1 1, .int .i64 0, .int .i64 9] 31)) by
                have k0 := HT2.out.alloc (.cells #[.slice (some ⟨g4, 0, none⟩) 1 1, .int .i64 0, .int .i64 9] 31)
                exact (k0.tail).add (SilsAt.stays (sils_one (moS (.slice (some ⟨g4, 0, none⟩) 1 1)) HT2.out.p0)))
              obtain ⟨gs, hgs⟩ : ∃ b, w7.heap.size = b := ⟨_, rfl⟩
              rw [hgs] at HT3
              obtain ⟨W8, hW8⟩ : ∃ W, w7.alloc (.cells #[.slice (some ⟨g4, 0, none⟩) 1 1, .int .i64 0, .int .i64 9] 31) = W := ⟨_, rfl⟩
              rw [hW8] at HT3
              clear HT2
              have HH1 : Hid (∀ V, Kept w [fun W => SilsAt W (some ⟨gs, 0, none⟩) 1 [moS (.slice (some ⟨g4, 0, none⟩) 1 1)], fun W => InhsAt W (some ⟨gh, 0, none⟩) 1 [moH (.slice (some ⟨g1, 0, none⟩) 1 1) (.slice (some ⟨g2, 0, none⟩) 1 1)], fun W => HasL W (.slice (some ⟨gb, 0, none⟩) 1 1) moB, fun W => HasL W (.slice (some ⟨ga, 0, none⟩) 1 1) mrA] V → Calls Try.prog 10 #[.slice (some ⟨V.heap.size, 0, none⟩) 2 2, .int .i64 5, .slice (some ⟨gs, 0, none⟩) 1 1, .slice (some ⟨gh, 0, none⟩) 1 1] (V.alloc (.cells #[.slice (some ⟨ga, 0, none⟩) 1 1, .slice (some ⟨gb, 0, none⟩) 1 1] 24)) fun e w' => (∃ A c, e = .returned (.slice A 0 c)) ∧ Below V.heap.size V w') := Lib.hid (fun V h => heard_closed (S := [mrA, moB]) (R := []) (sets_two h.p3 h.p2) (h.alloc _).p0 (h.alloc _).p1 (by decide) rfl (mo1 _ _ _))
              have HH2 : Hid (∀ V, Kept w [fun W => SilsAt W (some ⟨gs, 0, none⟩) 1 [moS (.slice (some ⟨g4, 0, none⟩) 1 1)], fun W => InhsAt W (some ⟨gh, 0, none⟩) 1 [moH (.slice (some ⟨g1, 0, none⟩) 1 1) (.slice (some ⟨g2, 0, none⟩) 1 1)], fun W => HasL W (.slice (some ⟨gb, 0, none⟩) 1 1) moB, fun W => HasL W (.slice (some ⟨ga, 0, none⟩) 1 1) mrA] V → Calls Try.prog 10 #[.slice (some ⟨V.heap.size, 0, none⟩) 1 1, .int .i64 5, .slice (some ⟨gs, 0, none⟩) 1 1, .slice (some ⟨gh, 0, none⟩) 1 1] (V.alloc (.cells #[.slice (some ⟨gb, 0, none⟩) 1 1] 24)) fun e w' => (∃ A c, e = .returned (.slice A 1 c)) ∧ Below V.heap.size V w') := Lib.hid (fun V h => heard_closed (S := [moB]) (R := [moB]) (sets_one h.p2) (h.alloc _).p0 (h.alloc _).p1 (by decide) rfl (mo2 _ _ _))
              have HH3 : Hid (∀ V, Kept w [fun W => SilsAt W (some ⟨gs, 0, none⟩) 1 [moS (.slice (some ⟨g4, 0, none⟩) 1 1)], fun W => InhsAt W (some ⟨gh, 0, none⟩) 1 [moH (.slice (some ⟨g1, 0, none⟩) 1 1) (.slice (some ⟨g2, 0, none⟩) 1 1)], fun W => HasL W (.slice (some ⟨gb, 0, none⟩) 1 1) moB, fun W => HasL W (.slice (some ⟨ga, 0, none⟩) 1 1) mrA] V → Calls Try.prog 10 #[.slice (some ⟨V.heap.size, 0, none⟩) 2 2, .int .i64 9, .slice (some ⟨gs, 0, none⟩) 1 1, .slice (some ⟨gh, 0, none⟩) 1 1] (V.alloc (.cells #[.slice (some ⟨ga, 0, none⟩) 1 1, .slice (some ⟨gb, 0, none⟩) 1 1] 24)) fun e w' => (∃ A c, e = .returned (.slice A 1 c)) ∧ Below V.heap.size V w') := Lib.hid (fun V h => heard_closed (S := [mrA, moB]) (R := [mrA]) (sets_two h.p3 h.p2) (h.alloc _).p0 (h.alloc _).p1 (by decide) rfl (mo3 _ _ _))
              go_wp2_with fail
              clear hW8 hgs
              (with_reducible refine (HH1.out _ HT3.out).mono ?_); rintro e wq ⟨⟨Aa, ca, rfl⟩, hbq⟩
              have HT3_n := Lib.hid (HT3.out.below hbq); clear HT3; have HT3 := HT3_n; clear HT3_n
              clear hbq
              go_wp2_with fail
              (with_reducible refine (HH2.out _ HT3.out).mono ?_); rintro e wq ⟨⟨Ab, cb, rfl⟩, hbq⟩
              have HT3_n := Lib.hid (HT3.out.below hbq); clear HT3; have HT3 := HT3_n; clear HT3_n
              clear hbq
              go_wp2_with fail
              (with_reducible refine (HH3.out _ HT3.out).mono ?_); rintro e wq ⟨⟨Ac, cc, rfl⟩, hbq⟩
              have HT3_n := Lib.hid (HT3.out.below hbq); clear HT3; have HT3 := HT3_n; clear HT3_n
              clear hbq
              go_wp2_with fail
              (with_reducible refine (mute_runs _).mono ?_); rintro e wq ⟨rfl, hbq⟩
              have HT3_n := Lib.hid (HT3.out.below hbq); clear HT3 hbq; have HT3 := HT3_n; clear HT3_n
              go_wp2_with fail
              go_ret
              exact ⟨rfl, HT3.out.bel⟩
end Go.Proofs.Ytfcjalojgmpnoaa
