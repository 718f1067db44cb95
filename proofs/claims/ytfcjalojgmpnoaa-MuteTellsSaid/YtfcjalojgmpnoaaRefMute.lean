/- klaxonlaw18.matchers; klaxonref17.Muted. -/
import Derived.Test.YtfcjalojgmpnoaaMuteRight
import Derived.Test.YtfcjalojgmpnoaaArgsMute
import Derived.Test.YtfcjalojgmpnoaaRefMatch
import Derived.Test.YtfcjalojgmpnoaaRefRightM
import Derived.Test.YtfcjalojgmpnoaaRefSet
import Derived.Test.YtfcjalojgmpnoaaCompare
import Derived.Test.YtfcjalojgmpnoaaFacts
namespace Go.Proofs.Ytfcjalojgmpnoaa
open Go.ChangeShapes Go.WideShapes Go.ChangeAt Go.RowKit
set_option linter.unusedVariables false
set_option linter.unusedSimpArgs false
set_option maxRecDepth 100000
theorem refAll_h {W : World} {v vm : Value} {l : List Lbl} {ms : List Mtc} (h : HasL W v l) (h2 : HasM W vm ms) (hz : mtsOk ms) :
    Calls Try.prog 30 #[vm, v] W fun e w' => e = .returned (.bool (allF l ms)) ∧ Below W.heap.size W w' := by
  obtain ⟨A, c, rfl, h3, h4, h5⟩ := h
  obtain ⟨A2, c2, rfl, k3, k4, k5⟩ := h2
  exact refAll_any A _ c _ l A2 _ c2 _ ms W h3 (Nat.le_refl _) (by omega) k3 (Nat.le_refl _) (by omega) (fun x hx => (hz x hx).2)
theorem rprint_h {W : World} {v : Value} {l : List Lbl} (h : HasL W v l) (hr : rightS l = true) :
    Calls Try.prog 31 #[v] W fun e w' => e = .returned (.string ⟨(printL l).toArray⟩) ∧ Below W.heap.size W w' := by
  obtain ⟨A, c, rfl, h2, h3, h4⟩ := h
  exact rprint_any A _ c l _ W h2 (Nat.le_refl _) (by omega) (fun x hx => by have := (rightS_sizes hr x hx).1; omega)
theorem refGet_h {W : World} {v : Value} {l : List Lbl} (h : HasL W v l) (name : ByteArray) :
    Calls Try.prog 32 #[v, .string name] W fun e w' => e = .returned (.string (getF l name)) ∧ Below W.heap.size W w' := by
  obtain ⟨A, c, rfl, h2, h3, h4⟩ := h
  exact refGet_any A _ c _ l name W h2 (Nat.le_refl _) (by omega)
set_option maxHeartbeats 2000000 in
theorem matchers_any (v : Value) (ms : List Mtc) (w : World) (h : HasM w v ms) (hz : mtsOk ms) :
    Calls Try.prog 13 #[v] w fun e w' => e = .returned (.bool (rightM ms)) ∧ Below w.heap.size w w' := by
  obtain ⟨A, c, rfl, hs, hc1, hc2⟩ := h
  have HS := Lib.hid hs; have HZ := Lib.hid hz
  obtain ⟨n, hn⟩ : ∃ n, ms.length = n := ⟨_, rfl⟩
  rw [hn] at HS hc1
  rw [hn]
  have HN := Lib.hid hn
  clear hs hz hn
  go_enter Try.func13, Try.ntmps13
  go_wp2_with fail
  go_loopg [4, 7] n (fun g x4 x7 wr => ∃ k : Nat, k + g = n ∧ x7 = .int .i64 k ∧ Below w.heap.size w wr ∧ ∀ x ∈ ms.take k, mtcOk x = true)
  case atStart => exact ⟨0, by omega, rfl, Below.refl _ _, (fun x hx => by simp at hx)⟩
  case round =>
    obtain ⟨k, hkg, rfl, hbel, hno⟩ := hrel
    have HB := Lib.hid hbel; have HNO := Lib.hid hno
    have hws := hbel.size
    clear hbel hno
    cases gk with
    | zero =>
      obtain rfl : k = n := by omega
      have HE := Lib.hid (show rightM ms = decide (k ≤ 6) by
        have h1 : ms.all mtcOk = true := by
          rw [List.all_eq_true]; intro x hx
          exact HNO.out x (by rw [List.take_of_length_le (by rw [HN.out]; exact Nat.le_refl _)]; exact hx)
        unfold rightM; rw [h1, Bool.and_true, HN.out])
      obtain ⟨q, hq⟩ : ∃ q, decide (k ≤ 6) = q := ⟨_, rfl⟩
      rw [hq] at HE
      have hq2 : decide ((k : Int) ≤ 6) = q := by rw [← hq]; exact decide_eq_decide.2 (by omega)
      go_wp2_with fail
      go_ret
      exact ⟨by rw [HE.out]; rfl, HB.out⟩
    | succ g =>
      have hlt : k < n := by omega
      obtain ⟨ad, hkl, rfl, c0, c1, c2⟩ := (HS.out.below HB.out).mtc hlt
      have hal := World.block_lt_of_cell? wr _ c0
      have hz := HZ.out ms[k] (List.getElem_mem _)
      have HNX : Hid (mtcOk ms[k] = true → ∀ x ∈ ms.take (k + 1), mtcOk x = true) := Lib.hid (fun h => upto_more (p := fun x => mtcOk x = true) hkl HNO.out h)
      have HBD : Hid (mtcOk ms[k] = false → rightM ms = false) := Lib.hid (fun h => rightM_bad (List.getElem_mem _) h)
      generalize ms[k] = p at *
      obtain ⟨a, b, kd⟩ := p
      simp only at c0 c1 c2 hz
      have hzn : a.size ≤ 9223372036854775807 ∧ b.size ≤ 9223372036854775807 := hz
      have HBA := Lib.hid (HB.out.alloc hws (.cells #[.string a, .string b, .int .i64 kd] 56))
      have HRM := Lib.hid (fun W => refRightM_any a b kd W hzn.1 hzn.2)
      obtain ⟨r, hr⟩ : ∃ r, mtcOk (a, b, kd) = r := ⟨_, rfl⟩
      rw [hr] at HRM HNX HBD
      clear hr hz hzn
      cases r with
      | false =>
        have HE := Lib.hid (HBD.out rfl)
        clear HNX HBD
        go_wp2_with fail
        (with_reducible refine (HRM.out _).mono ?_); rintro e w2 ⟨rfl, hb⟩
        have HB2 := Lib.hid (HBA.out.trans (hb.mono HBA.out.size))
        clear hb
        go_wp2_with fail
        go_ret
        exact ⟨by rw [HE.out]; rfl, HB2.out⟩
      | true =>
        have HN1 := Lib.hid (HNX.out rfl)
        clear HNX HBD
        go_wp2_with fail
        (with_reducible refine (HRM.out _).mono ?_); rintro e w2 ⟨rfl, hb⟩
        have HB2 := Lib.hid (HBA.out.trans (hb.mono HBA.out.size))
        clear hb
        go_wp2_with fail
        go_roundg g
        case measure => omega
        case rel => exact ⟨k + 1, by omega, by go_num, HB2.out, HN1.out⟩
set_option maxHeartbeats 8000000 in
theorem refMuted_any (A : Option Addr) (n c : Nat) (all : List (Value × List Lbl)) (i : Nat) (t : Int) (A1 : Option Addr) (n1 c1 : Nat) (ss : List Sil) (A2 : Option Addr) (n2 c2 : Nat) (hs : List Inh) (w : World) (hA : SetsAt w A n all) (hS : SilsAt w A1 n1 ss) (hH : InhsAt w A2 n2 hs)
    (hn : n ≤ 9223372036854775807) (hn1 : n1 ≤ 9223372036854775807) (hn2 : n2 ≤ 9223372036854775807) (hi : i < all.length) (hrs : ∀ x ∈ all, rightS x.2 = true) (hzs : ∀ x ∈ ss, mtsOk x.ms) (hzh : ∀ x ∈ hs, mtsOk x.src ∧ mtsOk x.dst) :
    Calls Try.prog 15 #[.slice A n c, .int .i64 i, .int .i64 t, .slice A1 n1 c1, .slice A2 n2 c2] w fun e w' => e = .returned (.bool (silF all[i].2 t ss || inhF (all.map Prod.snd) all[i].2 hs)) ∧ Below w.heap.size w w' := by
  have hin : i < n := by have := hA.len; omega
  have HLA := Lib.hid hA.len
  have HLS := Lib.hid hS.len
  have HLH := Lib.hid hH.len
  have HZS := Lib.hid hzs; have HZH := Lib.hid hzh; have HRS := Lib.hid hrs
  have hm := hA.each all[i] (List.getElem_mem _)
  have hrl := hrs all[i] (List.getElem_mem _)
  obtain ⟨ad0, _, hAe, e0⟩ := hA.get hin
  have hcl : ∀ V : World, SetsAt V A n all → ∃ ad, A = some ad ∧ V.cell? (ad.add i) = some all[i].1 := fun V h => by
    obtain ⟨ad, _, h1, h2⟩ := h.get hin; exact ⟨ad, h1, h2⟩
  have HT := Lib.hid (((((Kept.start w).add hH.stays).add hS.stays).add hm.stay).add hA.stays)
  generalize all[i] = p at *
  obtain ⟨v, l⟩ := p
  simp only at e0 hm HT hrl hcl
  obtain ⟨A0, c0, rfl⟩ := hm.form
  have z2 : (0 : Int) ≤ i := by omega
  have z3 : (i : Int) < n := by omega
  subst hAe
  have HCL := Lib.hid (show ∀ V : World, SetsAt V (some ad0) n all → V.cell? (ad0.add i) = some (.slice A0 l.length c0) from fun V h => by
    obtain ⟨ad, h1, h2⟩ := hcl V h; injection h1 with h1; subst h1; exact h2)
  have HRL := Lib.hid hrl
  clear hm hA hH hS hi hcl hrl hrs hzs hzh e0
  show Calls _ _ _ _ fun e w' => e = .returned (.bool (silF l t ss || inhF (all.map Prod.snd) l hs)) ∧ Below w.heap.size w w'
  go_enter Try.func15, Try.ntmps15
  go_wp2_with fail
  go_loopg [12, 21] n1 (fun g x12 x21 wr => ∃ k : Nat, k + g = n1 ∧ x21 = .int .i64 k ∧ Kept w [fun W => SetsAt W (some ad0) n all, fun W => HasL W (.slice A0 l.length c0) l, fun W => SilsAt W A1 n1 ss, fun W => InhsAt W A2 n2 hs] wr ∧ ∀ x ∈ ss.take k, silOne l t x = false)
  case atStart => exact ⟨0, by omega, rfl, HT.out, (fun x hx => by simp at hx)⟩
  case round =>
    obtain ⟨k, hkg, rfl, hkept, hno⟩ := hrel
    have HTR := Lib.hid hkept; have HNO := Lib.hid hno
    clear hkept hno HT
    cases gk with
    | succ g =>
      have hlt : k < n1 := by omega
      obtain ⟨ads, hkl, rfl, e0, e1, e2⟩ := HTR.out.p2.get hlt
      have hal := World.block_lt_of_cell? wr _ e0
      have hm := HTR.out.p2.ms ss[k] (List.getElem_mem _)
      have hz := HZS.out ss[k] (List.getElem_mem _)
      have HN : Hid (silOne l t ss[k] = false → ∀ x ∈ ss.take (k + 1), silOne l t x = false) := Lib.hid (fun h => upto_more hkl HNO.out h)
      have HY : Hid (silOne l t ss[k] = true → silF l t ss = true) := Lib.hid (fun h => any_yes hkl h)
      generalize ss[k] = s at *
      obtain ⟨sv, sm, sf, st⟩ := s
      simp only at e0 e1 e2 hm hz
      obtain ⟨As, cs, rfl⟩ := hm.form
      have HKB := Lib.hid (((HTR.out.add hm.stay).alloc (.cells #[.slice As sm.length cs, .int .i64 sf, .int .i64 st] 31)).add (Blk.mk (heap_alloc_new wr (.cells #[.slice As sm.length cs, .int .i64 sf, .int .i64 st] 31)) : Blk _ wr.heap.size 31 [.slice As sm.length cs, .int .i64 sf, .int .i64 st]).stays)
      have HZ := Lib.hid hz
      have HBX := Lib.hid (show ∃ b, wr.heap.size = b from ⟨_, rfl⟩)
      clear hm hz HTR
      go_upto_region 4 with fail
      obtain ⟨bx, hbx⟩ := HBX.out
      rw [hbx]
      have HBY := Lib.hid hbx
      clear hbx e0 e1 e2 hal HBX
      generalize wr.alloc (.cells #[.slice As sm.length cs, .int .i64 sf, .int .i64 st] 31) = W1 at *
      rw [HBY.out] at HKB
      by_cases h1 : sf ≤ t
      · by_cases h2 : t < st
        · obtain ⟨r, hr⟩ : ∃ r, allF l sm = r := ⟨_, rfl⟩
          have hal := fun V (h : Kept w [fun W => Blk W bx 31 [.slice As sm.length cs, .int .i64 sf, .int .i64 st], fun W => HasM W (.slice As sm.length cs) sm, fun W => SetsAt W (some ad0) n all, fun W => HasL W (.slice A0 l.length c0) l, fun W => SilsAt W (some ads) n1 ss, fun W => InhsAt W A2 n2 hs] V) => refAll_h h.p3 h.p1 HZ.out
          rw [hr] at hal
          have HAL := Lib.hid hal
          have HR1 : Hid (r = true → silF l t ss = true) := Lib.hid (fun e => HY.out (silOne_yes h1 h2 (hr.trans e)))
          have HR0 : Hid (r = false → ∀ x ∈ ss.take (k + 1), silOne l t x = false) := Lib.hid (fun e => HN.out (silOne_no (.inr (.inr (hr.trans e)))))
          clear hal hr HN HY
          refine wp_region_facts (R := fun a b => Below a.heap.size a b) (G := Kept w [fun W => Blk W bx 31 [.slice As sm.length cs, .int .i64 sf, .int .i64 st], fun W => HasM W (.slice As sm.length cs) sm, fun W => SetsAt W (some ad0) n all, fun W => HasL W (.slice A0 l.length c0) l, fun W => SilsAt W (some ads) n1 ss, fun W => InhsAt W A2 n2 hs]) (V := fun i' u' W => match i' with | 0 => u' = .int .i64 t | 1 => u' = .pointer (some ⟨bx, 1, none⟩) | 2 => u' = .int .i64 sf | 3 => u' = .bool true | 4 => u' = .bool true | 5 => u' = .int .i64 t | 6 => u' = .pointer (some ⟨bx, 2, none⟩) | 7 => u' = .int .i64 st | 8 => u' = .bool true | 9 => u' = .bool true | 10 => u' = .bool true | 11 => u' = .pointer (some ⟨bx, 0, none⟩) | 12 => u' = .slice As sm.length cs | 13 => u' = .slice (some ad0) n c | 14 => u' = .int .i64 i | 15 => u' = .pointer (some (ad0.add i)) | 16 => u' = .slice A0 l.length c0 | 17 => u' = .bool r | 18 => u' = .bool r | _ => True) (by kernel_rfl) (fun w => Below.refl _ _) (fun a b c h1 h2 => h1.trans (h2.mono h1.size)) (by kernel_rfl) (by kernel_rfl) ?hG ⟨?o0, ?o1, ?o2, ?o3, ?o4, ?o5, ?o6, ?o7, ?o8, ?o9, ?o10, ?o11, ?o12, ?o13, ?o14, ?o15, ?o16, ?o17, ?o18, trivial⟩ ?hend
          case o0 =>
            intro a w hfr hG hd
            refine ⟨fun hw => ?_, fun hw => absurd hw (by simp [Region.wanted])⟩
            have s2 : a.tmps.getD 2 undef = .int .i64 t := hfr.at 2 (by kernel_rfl)
            refine op_yields (.int .i64 t) ?_ ?_ ?_
            · simp only [execOp, resolve, List.map_toArray, List.map_cons, List.map_nil, Act.eval, s2]; simp [go_sem, -Array.getD_eq_getD_getElem?, s2]
            · exact Below.refl _ _
            · exact (fun _ _ => rfl)
          case o1 =>
            intro a w hfr hG hd
            refine ⟨fun hw => ?_, fun hw => absurd hw (by simp [Region.wanted])⟩
            have s12 : a.tmps.getD 12 undef = .pointer (some ⟨bx, 0, none⟩) := hfr.at 12 (by kernel_rfl)
            refine op_yields (.pointer (some ⟨bx, 1, none⟩)) ?_ ?_ ?_
            · simp only [execOp, resolve, List.map_toArray, List.map_cons, List.map_nil, Act.eval, s12]; simp [go_sem, -Array.getD_eq_getD_getElem?, s12]
            · exact Below.refl _ _
            · exact (fun _ _ => rfl)
          case o2 =>
            intro a w hfr hG hd
            obtain ⟨d0, _⟩ := hd
            refine ⟨fun hw => ?_, fun hw => absurd hw (by simp [Region.wanted])⟩
            have s26 : a.tmps.getD 26 undef = .pointer (some ⟨bx, 1, none⟩) := (d0 rfl).now
            have e9 := hG.now.p0.cell 1; simp only [List.getElem?_cons_zero, List.getElem?_cons_succ] at e9
            refine op_yields (.int .i64 sf) ?_ ?_ ?_
            · simp only [execOp, resolve, List.map_toArray, List.map_cons, List.map_nil, Act.eval, s26]; simp [go_sem, -Array.getD_eq_getD_getElem?, s26, e9, e9]
            · exact Below.refl _ _
            · exact (fun _ _ => rfl)
          case o3 =>
            intro a w hfr hG hd
            obtain ⟨d0, d1, _⟩ := hd
            refine ⟨fun hw => ?_, fun hw => absurd hw (by simp [Region.wanted])⟩
            have s25 : a.tmps.getD 25 undef = .int .i64 t := (d0 rfl).now
            have s27 : a.tmps.getD 27 undef = .int .i64 sf := (d1 rfl).now
            refine op_yields (.bool true) ?_ ?_ ?_
            · simp only [execOp, resolve, List.map_toArray, List.map_cons, List.map_nil, Act.eval, s25, s27]; simp [go_sem, -Array.getD_eq_getD_getElem?, s25, s27, h1]
            · exact Below.refl _ _
            · exact (fun _ _ => rfl)
          case o4 =>
            intro a w hfr hG hd
            obtain ⟨d0, _⟩ := hd
            refine ⟨fun hw => ?_, fun hw => absurd hw (by simp [Region.wanted])⟩
            have s28 : a.tmps.getD 28 undef = .bool true := (d0 rfl).now
            refine op_yields (.bool true) ?_ ?_ ?_
            · simp only [execOp, resolve, List.map_toArray, List.map_cons, List.map_nil, Act.eval, s28]; simp [go_sem, -Array.getD_eq_getD_getElem?, s28]
            · exact Below.refl _ _
            · exact (fun _ _ => rfl)
          case o5 =>
            intro a w hfr hG hd
            obtain ⟨d0, _⟩ := hd
            have sg : a.tmps.getD 29 undef = .bool true := (d0 rfl).now
            refine ⟨fun hw => ?_, fun hw => by rw [wanted_of rfl (yielded_of rfl sg)] at hw; exact absurd hw (by decide)⟩
            have s2 : a.tmps.getD 2 undef = .int .i64 t := hfr.at 2 (by kernel_rfl)
            refine op_yields (.int .i64 t) ?_ ?_ ?_
            · simp only [execOp, resolve, List.map_toArray, List.map_cons, List.map_nil, Act.eval, s2]; simp [go_sem, -Array.getD_eq_getD_getElem?, s2]
            · exact Below.refl _ _
            · exact (fun _ _ => rfl)
          case o6 =>
            intro a w hfr hG hd
            obtain ⟨d0, _⟩ := hd
            have sg : a.tmps.getD 29 undef = .bool true := (d0 rfl).now
            refine ⟨fun hw => ?_, fun hw => by rw [wanted_of rfl (yielded_of rfl sg)] at hw; exact absurd hw (by decide)⟩
            have s12 : a.tmps.getD 12 undef = .pointer (some ⟨bx, 0, none⟩) := hfr.at 12 (by kernel_rfl)
            refine op_yields (.pointer (some ⟨bx, 2, none⟩)) ?_ ?_ ?_
            · simp only [execOp, resolve, List.map_toArray, List.map_cons, List.map_nil, Act.eval, s12]; simp [go_sem, -Array.getD_eq_getD_getElem?, s12]
            · exact Below.refl _ _
            · exact (fun _ _ => rfl)
          case o7 =>
            intro a w hfr hG hd
            obtain ⟨d0, d1, _⟩ := hd
            have sg : a.tmps.getD 29 undef = .bool true := (d1 rfl).now
            refine ⟨fun hw => ?_, fun hw => by rw [wanted_of rfl (yielded_of rfl sg)] at hw; exact absurd hw (by decide)⟩
            have s31 : a.tmps.getD 31 undef = .pointer (some ⟨bx, 2, none⟩) := (d0 rfl).now
            have e9 := hG.now.p0.cell 2; simp only [List.getElem?_cons_zero, List.getElem?_cons_succ] at e9
            refine op_yields (.int .i64 st) ?_ ?_ ?_
            · simp only [execOp, resolve, List.map_toArray, List.map_cons, List.map_nil, Act.eval, s31]; simp [go_sem, -Array.getD_eq_getD_getElem?, s31, e9, e9]
            · exact Below.refl _ _
            · exact (fun _ _ => rfl)
          case o8 =>
            intro a w hfr hG hd
            obtain ⟨d0, d1, d2, _⟩ := hd
            have sg : a.tmps.getD 29 undef = .bool true := (d2 rfl).now
            refine ⟨fun hw => ?_, fun hw => by rw [wanted_of rfl (yielded_of rfl sg)] at hw; exact absurd hw (by decide)⟩
            have s30 : a.tmps.getD 30 undef = .int .i64 t := (d0 rfl).now
            have s32 : a.tmps.getD 32 undef = .int .i64 st := (d1 rfl).now
            refine op_yields (.bool true) ?_ ?_ ?_
            · simp only [execOp, resolve, List.map_toArray, List.map_cons, List.map_nil, Act.eval, s30, s32]; simp [go_sem, -Array.getD_eq_getD_getElem?, s30, s32, h2]
            · exact Below.refl _ _
            · exact (fun _ _ => rfl)
          case o9 =>
            intro a w hfr hG hd
            obtain ⟨d0, d1, _⟩ := hd
            refine ⟨fun hw => ?_, fun hw => absurd hw (by simp [Region.wanted])⟩
            have s29 : a.tmps.getD 29 undef = .bool true := (d0 rfl).now
            have s33 : a.tmps.getD 33 undef = .bool true := (d1 rfl).now
            refine op_yields (.bool true) ?_ ?_ ?_
            · simp only [execOp, resolve, List.map_toArray, List.map_cons, List.map_nil, Act.eval, s29, s33]; simp [go_sem, -Array.getD_eq_getD_getElem?, s29, s33]
            · exact Below.refl _ _
            · exact (fun _ _ => rfl)
          case o10 =>
            intro a w hfr hG hd
            obtain ⟨d0, d1, _⟩ := hd
            refine ⟨fun hw => ?_, fun hw => absurd hw (by simp [Region.wanted])⟩
            have s34 : a.tmps.getD 34 undef = .bool true := (d0 rfl).now
            refine op_yields (.bool true) ?_ ?_ ?_
            · simp only [execOp, resolve, List.map_toArray, List.map_cons, List.map_nil, Act.eval, s34]; simp [go_sem, -Array.getD_eq_getD_getElem?, s34]
            · exact Below.refl _ _
            · exact (fun _ _ => rfl)
          case o11 =>
            intro a w hfr hG hd
            obtain ⟨d0, _⟩ := hd
            have sg : a.tmps.getD 35 undef = .bool true := (d0 rfl).now
            refine ⟨fun hw => ?_, fun hw => by rw [wanted_of rfl (yielded_of rfl sg)] at hw; exact absurd hw (by decide)⟩
            have s12 : a.tmps.getD 12 undef = .pointer (some ⟨bx, 0, none⟩) := hfr.at 12 (by kernel_rfl)
            refine op_yields (.pointer (some ⟨bx, 0, none⟩)) ?_ ?_ ?_
            · simp only [execOp, resolve, List.map_toArray, List.map_cons, List.map_nil, Act.eval, s12]; simp [go_sem, -Array.getD_eq_getD_getElem?, s12]
            · exact Below.refl _ _
            · exact (fun _ _ => rfl)
          case o12 =>
            intro a w hfr hG hd
            obtain ⟨d0, d1, _⟩ := hd
            have sg : a.tmps.getD 35 undef = .bool true := (d1 rfl).now
            refine ⟨fun hw => ?_, fun hw => by rw [wanted_of rfl (yielded_of rfl sg)] at hw; exact absurd hw (by decide)⟩
            have s36 : a.tmps.getD 36 undef = .pointer (some ⟨bx, 0, none⟩) := (d0 rfl).now
            have e9 := hG.now.p0.cell 0; simp only [List.getElem?_cons_zero, List.getElem?_cons_succ] at e9
            refine op_yields (.slice As sm.length cs) ?_ ?_ ?_
            · simp only [execOp, resolve, List.map_toArray, List.map_cons, List.map_nil, Act.eval, s36]; simp [go_sem, -Array.getD_eq_getD_getElem?, s36, e9, e9]
            · exact Below.refl _ _
            · exact (fun _ _ => rfl)
          case o13 =>
            intro a w hfr hG hd
            obtain ⟨d0, _⟩ := hd
            have sg : a.tmps.getD 35 undef = .bool true := (d0 rfl).now
            refine ⟨fun hw => ?_, fun hw => by rw [wanted_of rfl (yielded_of rfl sg)] at hw; exact absurd hw (by decide)⟩
            have s0 : a.tmps.getD 0 undef = .slice (some ad0) n c := hfr.at 0 (by kernel_rfl)
            refine op_yields (.slice (some ad0) n c) ?_ ?_ ?_
            · simp only [execOp, resolve, List.map_toArray, List.map_cons, List.map_nil, Act.eval, s0]; simp [go_sem, -Array.getD_eq_getD_getElem?, s0]
            · exact Below.refl _ _
            · exact (fun _ _ => rfl)
          case o14 =>
            intro a w hfr hG hd
            obtain ⟨d0, _⟩ := hd
            have sg : a.tmps.getD 35 undef = .bool true := (d0 rfl).now
            refine ⟨fun hw => ?_, fun hw => by rw [wanted_of rfl (yielded_of rfl sg)] at hw; exact absurd hw (by decide)⟩
            have s1 : a.tmps.getD 1 undef = .int .i64 i := hfr.at 1 (by kernel_rfl)
            refine op_yields (.int .i64 i) ?_ ?_ ?_
            · simp only [execOp, resolve, List.map_toArray, List.map_cons, List.map_nil, Act.eval, s1]; simp [go_sem, -Array.getD_eq_getD_getElem?, s1]
            · exact Below.refl _ _
            · exact (fun _ _ => rfl)
          case o15 =>
            intro a w hfr hG hd
            obtain ⟨d0, d1, d2, _⟩ := hd
            have sg : a.tmps.getD 35 undef = .bool true := (d2 rfl).now
            refine ⟨fun hw => ?_, fun hw => by rw [wanted_of rfl (yielded_of rfl sg)] at hw; exact absurd hw (by decide)⟩
            have s38 : a.tmps.getD 38 undef = .slice (some ad0) n c := (d0 rfl).now
            have s39 : a.tmps.getD 39 undef = .int .i64 i := (d1 rfl).now
            refine op_yields (.pointer (some (ad0.add i))) ?_ ?_ ?_
            · simp only [execOp, resolve, List.map_toArray, List.map_cons, List.map_nil, Act.eval, s38, s39]; simp [go_sem, -Array.getD_eq_getD_getElem?, s38, s39, z2, z3]
            · exact Below.refl _ _
            · exact (fun _ _ => rfl)
          case o16 =>
            intro a w hfr hG hd
            obtain ⟨d0, d1, _⟩ := hd
            have sg : a.tmps.getD 35 undef = .bool true := (d1 rfl).now
            refine ⟨fun hw => ?_, fun hw => by rw [wanted_of rfl (yielded_of rfl sg)] at hw; exact absurd hw (by decide)⟩
            have s40 : a.tmps.getD 40 undef = .pointer (some (ad0.add i)) := (d0 rfl).now
            have e9 := HCL.out w hG.now.p2
            refine op_yields (.slice A0 l.length c0) ?_ ?_ ?_
            · simp only [execOp, resolve, List.map_toArray, List.map_cons, List.map_nil, Act.eval, s40]; simp [go_sem, -Array.getD_eq_getD_getElem?, s40, e9, e9]
            · exact Below.refl _ _
            · exact (fun _ _ => rfl)
          case o17 =>
            intro a w hfr hG hd
            obtain ⟨d0, d1, d2, d3, _⟩ := hd
            have sg : a.tmps.getD 35 undef = .bool true := (d2 rfl).now
            refine ⟨fun hw => ?_, fun hw => by rw [wanted_of rfl (yielded_of rfl sg)] at hw; exact absurd hw (by decide)⟩
            have s37 : a.tmps.getD 37 undef = .slice As sm.length cs := (d0 rfl).now
            have s41 : a.tmps.getD 41 undef = .slice A0 l.length c0 := (d1 rfl).now
            refine op_calls2 ((HAL.out w hG.now).mono fun e' w' hh => ⟨_, hh.1, hh.2, (fun _ _ => rfl)⟩) ?_
            simp only [execOp, resolve, List.map_toArray, List.map_cons, List.map_nil, Act.eval, s37, s41]; simp [go_sem, -Array.getD_eq_getD_getElem?, s37, s41]
          case o18 =>
            intro a w hfr hG hd
            obtain ⟨d0, d1, _⟩ := hd
            refine ⟨fun hw => ?_, fun hw => absurd hw (by simp [Region.wanted])⟩
            have s35 : a.tmps.getD 35 undef = .bool true := (d0 rfl).now
            have s42 : a.tmps.getD 42 undef = .bool r := (d1 rfl).now
            refine op_yields (.bool r) ?_ ?_ ?_
            · simp only [execOp, resolve, List.map_toArray, List.map_cons, List.map_nil, Act.eval, s35, s42]; simp [go_sem, -Array.getD_eq_getD_getElem?, s35, s42]
            · exact Below.refl _ _
            · exact (fun _ _ => rfl)
          case hG => exact fun w' hb => HKB.out.drew.below hb
          case hend =>
            intro vs w' hG hv
            have key : vs 18 = .bool r := by
              obtain ⟨_, _, _, _, _, _, _, _, _, _, _, _, _, _, _, _, _, _, h18, _⟩ := hv
              exact h18.now
            have HT2 := Lib.hid hG.now
            clear hv hG HKB HAL h1 h2
            simp only [putAll, Act.put, key]
            clear key
            go_simp
            cases r with
            | true =>
              have HE := Lib.hid (HR1.out rfl)
              clear HR1 HR0
              go_wp2_with fail
              go_ret
              exact ⟨by rw [HE.out]; rfl, HT2.out.bel⟩
            | false =>
              have HN1 := Lib.hid (HR0.out rfl)
              clear HR1 HR0
              go_wp2_with fail
              go_roundg g
              case measure => omega
              case rel => exact ⟨k + 1, by omega, by go_num, HT2.out.tail.tail, HN1.out⟩
        · have HN1 := Lib.hid (HN.out (silOne_no (.inr (.inl h2))))
          clear HN HY
          refine wp_region_facts (R := fun a b => Below a.heap.size a b) (G := Kept w [fun W => Blk W bx 31 [.slice As sm.length cs, .int .i64 sf, .int .i64 st], fun W => HasM W (.slice As sm.length cs) sm, fun W => SetsAt W (some ad0) n all, fun W => HasL W (.slice A0 l.length c0) l, fun W => SilsAt W (some ads) n1 ss, fun W => InhsAt W A2 n2 hs]) (V := fun i' u' W => match i' with | 0 => u' = .int .i64 t | 1 => u' = .pointer (some ⟨bx, 1, none⟩) | 2 => u' = .int .i64 sf | 3 => u' = .bool true | 4 => u' = .bool true | 5 => u' = .int .i64 t | 6 => u' = .pointer (some ⟨bx, 2, none⟩) | 7 => u' = .int .i64 st | 8 => u' = .bool false | 9 => u' = .bool false | 10 => u' = .bool false | 11 => True | 12 => True | 13 => True | 14 => True | 15 => True | 16 => True | 17 => True | 18 => u' = .bool false | _ => True) (by kernel_rfl) (fun w => Below.refl _ _) (fun a b c h1 h2 => h1.trans (h2.mono h1.size)) (by kernel_rfl) (by kernel_rfl) ?hG ⟨?o0, ?o1, ?o2, ?o3, ?o4, ?o5, ?o6, ?o7, ?o8, ?o9, ?o10, ?o11, ?o12, ?o13, ?o14, ?o15, ?o16, ?o17, ?o18, trivial⟩ ?hend
          case o0 =>
            intro a w hfr hG hd
            refine ⟨fun hw => ?_, fun hw => absurd hw (by simp [Region.wanted])⟩
            have s2 : a.tmps.getD 2 undef = .int .i64 t := hfr.at 2 (by kernel_rfl)
            refine op_yields (.int .i64 t) ?_ ?_ ?_
            · simp only [execOp, resolve, List.map_toArray, List.map_cons, List.map_nil, Act.eval, s2]; simp [go_sem, -Array.getD_eq_getD_getElem?, s2]
            · exact Below.refl _ _
            · exact (fun _ _ => rfl)
          case o1 =>
            intro a w hfr hG hd
            refine ⟨fun hw => ?_, fun hw => absurd hw (by simp [Region.wanted])⟩
            have s12 : a.tmps.getD 12 undef = .pointer (some ⟨bx, 0, none⟩) := hfr.at 12 (by kernel_rfl)
            refine op_yields (.pointer (some ⟨bx, 1, none⟩)) ?_ ?_ ?_
            · simp only [execOp, resolve, List.map_toArray, List.map_cons, List.map_nil, Act.eval, s12]; simp [go_sem, -Array.getD_eq_getD_getElem?, s12]
            · exact Below.refl _ _
            · exact (fun _ _ => rfl)
          case o2 =>
            intro a w hfr hG hd
            obtain ⟨d0, _⟩ := hd
            refine ⟨fun hw => ?_, fun hw => absurd hw (by simp [Region.wanted])⟩
            have s26 : a.tmps.getD 26 undef = .pointer (some ⟨bx, 1, none⟩) := (d0 rfl).now
            have e9 := hG.now.p0.cell 1; simp only [List.getElem?_cons_zero, List.getElem?_cons_succ] at e9
            refine op_yields (.int .i64 sf) ?_ ?_ ?_
            · simp only [execOp, resolve, List.map_toArray, List.map_cons, List.map_nil, Act.eval, s26]; simp [go_sem, -Array.getD_eq_getD_getElem?, s26, e9, e9]
            · exact Below.refl _ _
            · exact (fun _ _ => rfl)
          case o3 =>
            intro a w hfr hG hd
            obtain ⟨d0, d1, _⟩ := hd
            refine ⟨fun hw => ?_, fun hw => absurd hw (by simp [Region.wanted])⟩
            have s25 : a.tmps.getD 25 undef = .int .i64 t := (d0 rfl).now
            have s27 : a.tmps.getD 27 undef = .int .i64 sf := (d1 rfl).now
            refine op_yields (.bool true) ?_ ?_ ?_
            · simp only [execOp, resolve, List.map_toArray, List.map_cons, List.map_nil, Act.eval, s25, s27]; simp [go_sem, -Array.getD_eq_getD_getElem?, s25, s27, h1]
            · exact Below.refl _ _
            · exact (fun _ _ => rfl)
          case o4 =>
            intro a w hfr hG hd
            obtain ⟨d0, _⟩ := hd
            refine ⟨fun hw => ?_, fun hw => absurd hw (by simp [Region.wanted])⟩
            have s28 : a.tmps.getD 28 undef = .bool true := (d0 rfl).now
            refine op_yields (.bool true) ?_ ?_ ?_
            · simp only [execOp, resolve, List.map_toArray, List.map_cons, List.map_nil, Act.eval, s28]; simp [go_sem, -Array.getD_eq_getD_getElem?, s28]
            · exact Below.refl _ _
            · exact (fun _ _ => rfl)
          case o5 =>
            intro a w hfr hG hd
            obtain ⟨d0, _⟩ := hd
            have sg : a.tmps.getD 29 undef = .bool true := (d0 rfl).now
            refine ⟨fun hw => ?_, fun hw => by rw [wanted_of rfl (yielded_of rfl sg)] at hw; exact absurd hw (by decide)⟩
            have s2 : a.tmps.getD 2 undef = .int .i64 t := hfr.at 2 (by kernel_rfl)
            refine op_yields (.int .i64 t) ?_ ?_ ?_
            · simp only [execOp, resolve, List.map_toArray, List.map_cons, List.map_nil, Act.eval, s2]; simp [go_sem, -Array.getD_eq_getD_getElem?, s2]
            · exact Below.refl _ _
            · exact (fun _ _ => rfl)
          case o6 =>
            intro a w hfr hG hd
            obtain ⟨d0, _⟩ := hd
            have sg : a.tmps.getD 29 undef = .bool true := (d0 rfl).now
            refine ⟨fun hw => ?_, fun hw => by rw [wanted_of rfl (yielded_of rfl sg)] at hw; exact absurd hw (by decide)⟩
            have s12 : a.tmps.getD 12 undef = .pointer (some ⟨bx, 0, none⟩) := hfr.at 12 (by kernel_rfl)
            refine op_yields (.pointer (some ⟨bx, 2, none⟩)) ?_ ?_ ?_
            · simp only [execOp, resolve, List.map_toArray, List.map_cons, List.map_nil, Act.eval, s12]; simp [go_sem, -Array.getD_eq_getD_getElem?, s12]
            · exact Below.refl _ _
            · exact (fun _ _ => rfl)
          case o7 =>
            intro a w hfr hG hd
            obtain ⟨d0, d1, _⟩ := hd
            have sg : a.tmps.getD 29 undef = .bool true := (d1 rfl).now
            refine ⟨fun hw => ?_, fun hw => by rw [wanted_of rfl (yielded_of rfl sg)] at hw; exact absurd hw (by decide)⟩
            have s31 : a.tmps.getD 31 undef = .pointer (some ⟨bx, 2, none⟩) := (d0 rfl).now
            have e9 := hG.now.p0.cell 2; simp only [List.getElem?_cons_zero, List.getElem?_cons_succ] at e9
            refine op_yields (.int .i64 st) ?_ ?_ ?_
            · simp only [execOp, resolve, List.map_toArray, List.map_cons, List.map_nil, Act.eval, s31]; simp [go_sem, -Array.getD_eq_getD_getElem?, s31, e9, e9]
            · exact Below.refl _ _
            · exact (fun _ _ => rfl)
          case o8 =>
            intro a w hfr hG hd
            obtain ⟨d0, d1, d2, _⟩ := hd
            have sg : a.tmps.getD 29 undef = .bool true := (d2 rfl).now
            refine ⟨fun hw => ?_, fun hw => by rw [wanted_of rfl (yielded_of rfl sg)] at hw; exact absurd hw (by decide)⟩
            have s30 : a.tmps.getD 30 undef = .int .i64 t := (d0 rfl).now
            have s32 : a.tmps.getD 32 undef = .int .i64 st := (d1 rfl).now
            refine op_yields (.bool false) ?_ ?_ ?_
            · simp only [execOp, resolve, List.map_toArray, List.map_cons, List.map_nil, Act.eval, s30, s32]; simp [go_sem, -Array.getD_eq_getD_getElem?, s30, s32, h2]
            · exact Below.refl _ _
            · exact (fun _ _ => rfl)
          case o9 =>
            intro a w hfr hG hd
            obtain ⟨d0, d1, _⟩ := hd
            refine ⟨fun hw => ?_, fun hw => absurd hw (by simp [Region.wanted])⟩
            have s29 : a.tmps.getD 29 undef = .bool true := (d0 rfl).now
            have s33 : a.tmps.getD 33 undef = .bool false := (d1 rfl).now
            refine op_yields (.bool false) ?_ ?_ ?_
            · simp only [execOp, resolve, List.map_toArray, List.map_cons, List.map_nil, Act.eval, s29, s33]; simp [go_sem, -Array.getD_eq_getD_getElem?, s29, s33]
            · exact Below.refl _ _
            · exact (fun _ _ => rfl)
          case o10 =>
            intro a w hfr hG hd
            obtain ⟨d0, d1, _⟩ := hd
            refine ⟨fun hw => ?_, fun hw => absurd hw (by simp [Region.wanted])⟩
            have s34 : a.tmps.getD 34 undef = .bool false := (d0 rfl).now
            refine op_yields (.bool false) ?_ ?_ ?_
            · simp only [execOp, resolve, List.map_toArray, List.map_cons, List.map_nil, Act.eval, s34]; simp [go_sem, -Array.getD_eq_getD_getElem?, s34]
            · exact Below.refl _ _
            · exact (fun _ _ => rfl)
          case o11 =>
            intro a w hfr hG hd
            obtain ⟨d0, _⟩ := hd
            have sg : a.tmps.getD 35 undef = .bool false := (d0 rfl).now
            refine ⟨fun hw => ?_, fun hw => fun _ _ => trivial⟩
            rw [wanted_of rfl (yielded_of rfl sg)] at hw; exact absurd hw (by decide)
          case o12 =>
            intro a w hfr hG hd
            obtain ⟨d0, d1, _⟩ := hd
            have sg : a.tmps.getD 35 undef = .bool false := (d1 rfl).now
            refine ⟨fun hw => ?_, fun hw => fun _ _ => trivial⟩
            rw [wanted_of rfl (yielded_of rfl sg)] at hw; exact absurd hw (by decide)
          case o13 =>
            intro a w hfr hG hd
            obtain ⟨d0, _⟩ := hd
            have sg : a.tmps.getD 35 undef = .bool false := (d0 rfl).now
            refine ⟨fun hw => ?_, fun hw => fun _ _ => trivial⟩
            rw [wanted_of rfl (yielded_of rfl sg)] at hw; exact absurd hw (by decide)
          case o14 =>
            intro a w hfr hG hd
            obtain ⟨d0, _⟩ := hd
            have sg : a.tmps.getD 35 undef = .bool false := (d0 rfl).now
            refine ⟨fun hw => ?_, fun hw => fun _ _ => trivial⟩
            rw [wanted_of rfl (yielded_of rfl sg)] at hw; exact absurd hw (by decide)
          case o15 =>
            intro a w hfr hG hd
            obtain ⟨d0, d1, d2, _⟩ := hd
            have sg : a.tmps.getD 35 undef = .bool false := (d2 rfl).now
            refine ⟨fun hw => ?_, fun hw => fun _ _ => trivial⟩
            rw [wanted_of rfl (yielded_of rfl sg)] at hw; exact absurd hw (by decide)
          case o16 =>
            intro a w hfr hG hd
            obtain ⟨d0, d1, _⟩ := hd
            have sg : a.tmps.getD 35 undef = .bool false := (d1 rfl).now
            refine ⟨fun hw => ?_, fun hw => fun _ _ => trivial⟩
            rw [wanted_of rfl (yielded_of rfl sg)] at hw; exact absurd hw (by decide)
          case o17 =>
            intro a w hfr hG hd
            obtain ⟨d0, d1, d2, d3, _⟩ := hd
            have sg : a.tmps.getD 35 undef = .bool false := (d2 rfl).now
            refine ⟨fun hw => ?_, fun hw => fun _ _ => trivial⟩
            rw [wanted_of rfl (yielded_of rfl sg)] at hw; exact absurd hw (by decide)
          case o18 =>
            intro a w hfr hG hd
            obtain ⟨d0, d1, _⟩ := hd
            refine ⟨fun hw => ?_, fun hw => absurd hw (by simp [Region.wanted])⟩
            have s35 : a.tmps.getD 35 undef = .bool false := (d0 rfl).now
            refine op_yields (.bool false) ?_ ?_ ?_
            · simp only [execOp, resolve, List.map_toArray, List.map_cons, List.map_nil, Act.eval, s35]; simp [go_sem, -Array.getD_eq_getD_getElem?, s35]
            · exact Below.refl _ _
            · exact (fun _ _ => rfl)
          case hG => exact fun w' hb => HKB.out.drew.below hb
          case hend =>
            intro vs w' hG hv
            have key : vs 18 = .bool false := by
              obtain ⟨_, _, _, _, _, _, _, _, _, _, _, _, _, _, _, _, _, _, h18, _⟩ := hv
              exact h18.now
            have HT2 := Lib.hid hG.now
            clear hv hG HKB h1 h2
            simp only [putAll, Act.put, key]
            clear key
            go_simp
            go_wp2_with fail
            go_roundg g
            case measure => omega
            case rel => exact ⟨k + 1, by omega, by go_num, HT2.out.tail.tail, HN1.out⟩
      · have HN1 := Lib.hid (HN.out (silOne_no (.inl h1)))
        clear HN HY
        refine wp_region_facts (R := fun a b => Below a.heap.size a b) (G := Kept w [fun W => Blk W bx 31 [.slice As sm.length cs, .int .i64 sf, .int .i64 st], fun W => HasM W (.slice As sm.length cs) sm, fun W => SetsAt W (some ad0) n all, fun W => HasL W (.slice A0 l.length c0) l, fun W => SilsAt W (some ads) n1 ss, fun W => InhsAt W A2 n2 hs]) (V := fun i' u' W => match i' with | 0 => u' = .int .i64 t | 1 => u' = .pointer (some ⟨bx, 1, none⟩) | 2 => u' = .int .i64 sf | 3 => u' = .bool false | 4 => u' = .bool false | 5 => True | 6 => True | 7 => True | 8 => True | 9 => u' = .bool false | 10 => u' = .bool false | 11 => True | 12 => True | 13 => True | 14 => True | 15 => True | 16 => True | 17 => True | 18 => u' = .bool false | _ => True) (by kernel_rfl) (fun w => Below.refl _ _) (fun a b c h1 h2 => h1.trans (h2.mono h1.size)) (by kernel_rfl) (by kernel_rfl) ?hG ⟨?o0, ?o1, ?o2, ?o3, ?o4, ?o5, ?o6, ?o7, ?o8, ?o9, ?o10, ?o11, ?o12, ?o13, ?o14, ?o15, ?o16, ?o17, ?o18, trivial⟩ ?hend
        case o0 =>
          intro a w hfr hG hd
          refine ⟨fun hw => ?_, fun hw => absurd hw (by simp [Region.wanted])⟩
          have s2 : a.tmps.getD 2 undef = .int .i64 t := hfr.at 2 (by kernel_rfl)
          refine op_yields (.int .i64 t) ?_ ?_ ?_
          · simp only [execOp, resolve, List.map_toArray, List.map_cons, List.map_nil, Act.eval, s2]; simp [go_sem, -Array.getD_eq_getD_getElem?, s2]
          · exact Below.refl _ _
          · exact (fun _ _ => rfl)
        case o1 =>
          intro a w hfr hG hd
          refine ⟨fun hw => ?_, fun hw => absurd hw (by simp [Region.wanted])⟩
          have s12 : a.tmps.getD 12 undef = .pointer (some ⟨bx, 0, none⟩) := hfr.at 12 (by kernel_rfl)
          refine op_yields (.pointer (some ⟨bx, 1, none⟩)) ?_ ?_ ?_
          · simp only [execOp, resolve, List.map_toArray, List.map_cons, List.map_nil, Act.eval, s12]; simp [go_sem, -Array.getD_eq_getD_getElem?, s12]
          · exact Below.refl _ _
          · exact (fun _ _ => rfl)
        case o2 =>
          intro a w hfr hG hd
          obtain ⟨d0, _⟩ := hd
          refine ⟨fun hw => ?_, fun hw => absurd hw (by simp [Region.wanted])⟩
          have s26 : a.tmps.getD 26 undef = .pointer (some ⟨bx, 1, none⟩) := (d0 rfl).now
          have e9 := hG.now.p0.cell 1; simp only [List.getElem?_cons_zero, List.getElem?_cons_succ] at e9
          refine op_yields (.int .i64 sf) ?_ ?_ ?_
          · simp only [execOp, resolve, List.map_toArray, List.map_cons, List.map_nil, Act.eval, s26]; simp [go_sem, -Array.getD_eq_getD_getElem?, s26, e9, e9]
          · exact Below.refl _ _
          · exact (fun _ _ => rfl)
        case o3 =>
          intro a w hfr hG hd
          obtain ⟨d0, d1, _⟩ := hd
          refine ⟨fun hw => ?_, fun hw => absurd hw (by simp [Region.wanted])⟩
          have s25 : a.tmps.getD 25 undef = .int .i64 t := (d0 rfl).now
          have s27 : a.tmps.getD 27 undef = .int .i64 sf := (d1 rfl).now
          refine op_yields (.bool false) ?_ ?_ ?_
          · simp only [execOp, resolve, List.map_toArray, List.map_cons, List.map_nil, Act.eval, s25, s27]; simp [go_sem, -Array.getD_eq_getD_getElem?, s25, s27, h1]
          · exact Below.refl _ _
          · exact (fun _ _ => rfl)
        case o4 =>
          intro a w hfr hG hd
          obtain ⟨d0, _⟩ := hd
          refine ⟨fun hw => ?_, fun hw => absurd hw (by simp [Region.wanted])⟩
          have s28 : a.tmps.getD 28 undef = .bool false := (d0 rfl).now
          refine op_yields (.bool false) ?_ ?_ ?_
          · simp only [execOp, resolve, List.map_toArray, List.map_cons, List.map_nil, Act.eval, s28]; simp [go_sem, -Array.getD_eq_getD_getElem?, s28]
          · exact Below.refl _ _
          · exact (fun _ _ => rfl)
        case o5 =>
          intro a w hfr hG hd
          obtain ⟨d0, _⟩ := hd
          have sg : a.tmps.getD 29 undef = .bool false := (d0 rfl).now
          refine ⟨fun hw => ?_, fun hw => fun _ _ => trivial⟩
          rw [wanted_of rfl (yielded_of rfl sg)] at hw; exact absurd hw (by decide)
        case o6 =>
          intro a w hfr hG hd
          obtain ⟨d0, _⟩ := hd
          have sg : a.tmps.getD 29 undef = .bool false := (d0 rfl).now
          refine ⟨fun hw => ?_, fun hw => fun _ _ => trivial⟩
          rw [wanted_of rfl (yielded_of rfl sg)] at hw; exact absurd hw (by decide)
        case o7 =>
          intro a w hfr hG hd
          obtain ⟨d0, d1, _⟩ := hd
          have sg : a.tmps.getD 29 undef = .bool false := (d1 rfl).now
          refine ⟨fun hw => ?_, fun hw => fun _ _ => trivial⟩
          rw [wanted_of rfl (yielded_of rfl sg)] at hw; exact absurd hw (by decide)
        case o8 =>
          intro a w hfr hG hd
          obtain ⟨d0, d1, d2, _⟩ := hd
          have sg : a.tmps.getD 29 undef = .bool false := (d2 rfl).now
          refine ⟨fun hw => ?_, fun hw => fun _ _ => trivial⟩
          rw [wanted_of rfl (yielded_of rfl sg)] at hw; exact absurd hw (by decide)
        case o9 =>
          intro a w hfr hG hd
          obtain ⟨d0, d1, _⟩ := hd
          refine ⟨fun hw => ?_, fun hw => absurd hw (by simp [Region.wanted])⟩
          have s29 : a.tmps.getD 29 undef = .bool false := (d0 rfl).now
          refine op_yields (.bool false) ?_ ?_ ?_
          · simp only [execOp, resolve, List.map_toArray, List.map_cons, List.map_nil, Act.eval, s29]; simp [go_sem, -Array.getD_eq_getD_getElem?, s29]
          · exact Below.refl _ _
          · exact (fun _ _ => rfl)
        case o10 =>
          intro a w hfr hG hd
          obtain ⟨d0, d1, _⟩ := hd
          refine ⟨fun hw => ?_, fun hw => absurd hw (by simp [Region.wanted])⟩
          have s34 : a.tmps.getD 34 undef = .bool false := (d0 rfl).now
          refine op_yields (.bool false) ?_ ?_ ?_
          · simp only [execOp, resolve, List.map_toArray, List.map_cons, List.map_nil, Act.eval, s34]; simp [go_sem, -Array.getD_eq_getD_getElem?, s34]
          · exact Below.refl _ _
          · exact (fun _ _ => rfl)
        case o11 =>
          intro a w hfr hG hd
          obtain ⟨d0, _⟩ := hd
          have sg : a.tmps.getD 35 undef = .bool false := (d0 rfl).now
          refine ⟨fun hw => ?_, fun hw => fun _ _ => trivial⟩
          rw [wanted_of rfl (yielded_of rfl sg)] at hw; exact absurd hw (by decide)
        case o12 =>
          intro a w hfr hG hd
          obtain ⟨d0, d1, _⟩ := hd
          have sg : a.tmps.getD 35 undef = .bool false := (d1 rfl).now
          refine ⟨fun hw => ?_, fun hw => fun _ _ => trivial⟩
          rw [wanted_of rfl (yielded_of rfl sg)] at hw; exact absurd hw (by decide)
        case o13 =>
          intro a w hfr hG hd
          obtain ⟨d0, _⟩ := hd
          have sg : a.tmps.getD 35 undef = .bool false := (d0 rfl).now
          refine ⟨fun hw => ?_, fun hw => fun _ _ => trivial⟩
          rw [wanted_of rfl (yielded_of rfl sg)] at hw; exact absurd hw (by decide)
        case o14 =>
          intro a w hfr hG hd
          obtain ⟨d0, _⟩ := hd
          have sg : a.tmps.getD 35 undef = .bool false := (d0 rfl).now
          refine ⟨fun hw => ?_, fun hw => fun _ _ => trivial⟩
          rw [wanted_of rfl (yielded_of rfl sg)] at hw; exact absurd hw (by decide)
        case o15 =>
          intro a w hfr hG hd
          obtain ⟨d0, d1, d2, _⟩ := hd
          have sg : a.tmps.getD 35 undef = .bool false := (d2 rfl).now
          refine ⟨fun hw => ?_, fun hw => fun _ _ => trivial⟩
          rw [wanted_of rfl (yielded_of rfl sg)] at hw; exact absurd hw (by decide)
        case o16 =>
          intro a w hfr hG hd
          obtain ⟨d0, d1, _⟩ := hd
          have sg : a.tmps.getD 35 undef = .bool false := (d1 rfl).now
          refine ⟨fun hw => ?_, fun hw => fun _ _ => trivial⟩
          rw [wanted_of rfl (yielded_of rfl sg)] at hw; exact absurd hw (by decide)
        case o17 =>
          intro a w hfr hG hd
          obtain ⟨d0, d1, d2, d3, _⟩ := hd
          have sg : a.tmps.getD 35 undef = .bool false := (d2 rfl).now
          refine ⟨fun hw => ?_, fun hw => fun _ _ => trivial⟩
          rw [wanted_of rfl (yielded_of rfl sg)] at hw; exact absurd hw (by decide)
        case o18 =>
          intro a w hfr hG hd
          obtain ⟨d0, d1, _⟩ := hd
          refine ⟨fun hw => ?_, fun hw => absurd hw (by simp [Region.wanted])⟩
          have s35 : a.tmps.getD 35 undef = .bool false := (d0 rfl).now
          refine op_yields (.bool false) ?_ ?_ ?_
          · simp only [execOp, resolve, List.map_toArray, List.map_cons, List.map_nil, Act.eval, s35]; simp [go_sem, -Array.getD_eq_getD_getElem?, s35]
          · exact Below.refl _ _
          · exact (fun _ _ => rfl)
        case hG => exact fun w' hb => HKB.out.drew.below hb
        case hend =>
          intro vs w' hG hv
          have key : vs 18 = .bool false := by
            obtain ⟨_, _, _, _, _, _, _, _, _, _, _, _, _, _, _, _, _, _, h18, _⟩ := hv
            exact h18.now
          have HT2 := Lib.hid hG.now
          clear hv hG HKB h1
          simp only [putAll, Act.put, key]
          clear key
          go_simp
          go_wp2_with fail
          go_roundg g
          case measure => omega
          case rel => exact ⟨k + 1, by omega, by go_num, HT2.out.tail.tail, HN1.out⟩
    | zero =>
      obtain rfl : n1 = k := by omega
      have HS0 := Lib.hid (show silF l t ss = false from any_no (by rw [HLS.out]; exact Nat.le_refl _) HNO.out)
      clear HNO
      go_wp2_with fail
      go_loopg [14, 15, 16, 18, 47] n2 (fun g x14 x15 x16 x18 x47 wr => ∃ k : Nat, k + g = n2 ∧ x47 = .int .i64 k ∧ Kept w [fun W => SetsAt W (some ad0) n all, fun W => HasL W (.slice A0 l.length c0) l, fun W => SilsAt W A1 n1 ss, fun W => InhsAt W A2 n2 hs] wr ∧ ∀ x ∈ hs.take k, inhOne (all.map Prod.snd) l x = false)
      case atStart => exact ⟨0, by omega, rfl, HTR.out, (fun x hx => by simp at hx)⟩
      case round =>
        obtain ⟨k, hkg, rfl, hkept, hno⟩ := hrel
        have HTH := Lib.hid hkept; have HNO := Lib.hid hno
        clear hkept hno HTR
        cases gk with
        | zero =>
          obtain rfl : k = n2 := by omega
          have HE := Lib.hid (show inhF (all.map Prod.snd) l hs = false from any_no (by rw [HLH.out]; exact Nat.le_refl _) HNO.out)
          go_wp2_with fail
          go_ret
          exact ⟨by rw [HS0.out, Bool.false_or, HE.out]; rfl, HTH.out.bel⟩
        | succ g =>
          have hlt : k < n2 := by omega
          obtain ⟨adh, hkl, rfl, f0, f1, f2⟩ := HTH.out.p3.get hlt
          have hal := World.block_lt_of_cell? wr _ f0
          have hms := HTH.out.p3.src hs[k] (List.getElem_mem _)
          have hmd := HTH.out.p3.dst hs[k] (List.getElem_mem _)
          have hme := HTH.out.p3.eq hs[k] (List.getElem_mem _)
          have hz := HZH.out hs[k] (List.getElem_mem _)
          have HN : Hid (inhOne (all.map Prod.snd) l hs[k] = false → ∀ x ∈ hs.take (k + 1), inhOne (all.map Prod.snd) l x = false) := Lib.hid (fun h => upto_more hkl HNO.out h)
          have HY : Hid (inhOne (all.map Prod.snd) l hs[k] = true → inhF (all.map Prod.snd) l hs = true) := Lib.hid (fun h => any_yes hkl h)
          generalize hs[k] = ih at *
          obtain ⟨vs, src, vd, dst, ve, eq⟩ := ih
          simp only at f0 f1 f2 hms hmd hme hz
          obtain ⟨As, cs, rfl⟩ := hms.form
          obtain ⟨Ad, cd, rfl⟩ := hmd.form
          obtain ⟨Ae, ce, rfl, hce1, hce2⟩ := hme.form
          have HKB := Lib.hid (((((HTH.out.add hmd.stay).add hms.stay).add hme.stay).alloc (.cells #[.slice As src.length cs, .slice Ad dst.length cd, .slice Ae eq.length ce] 29)).add (Blk.mk (heap_alloc_new wr (.cells #[.slice As src.length cs, .slice Ad dst.length cd, .slice Ae eq.length ce] 29)) : Blk _ wr.heap.size 29 [.slice As src.length cs, .slice Ad dst.length cd, .slice Ae eq.length ce]).stays)
          have HZ := Lib.hid hz
          have HBX := Lib.hid (show ∃ b, wr.heap.size = b from ⟨_, rfl⟩)
          clear hms hmd hme hz HTH
          go_upto_region 10 with fail
          obtain ⟨bx, hbx⟩ := HBX.out
          rw [hbx]
          have HBY := Lib.hid hbx
          clear hbx f0 f1 f2 hal HBX
          generalize wr.alloc (.cells #[.slice As src.length cs, .slice Ad dst.length cd, .slice Ae eq.length ce] 29) = W1 at *
          rw [HBY.out] at HKB
          obtain ⟨r, hr⟩ : ∃ r, allF l dst = r := ⟨_, rfl⟩
          have had := fun V (h : Kept w [fun W => Blk W bx 29 [.slice As src.length cs, .slice Ad dst.length cd, .slice Ae eq.length ce], fun W => HasS W (.slice Ae eq.length ce) eq, fun W => HasM W (.slice As src.length cs) src, fun W => HasM W (.slice Ad dst.length cd) dst, fun W => SetsAt W (some ad0) n all, fun W => HasL W (.slice A0 l.length c0) l, fun W => SilsAt W A1 n1 ss, fun W => InhsAt W (some adh) n2 hs] V) => refAll_h h.p5 h.p3 HZ.out.2
          rw [hr] at had
          have HAD := Lib.hid had
          have HD0 : Hid (r = false → ∀ x ∈ hs.take (k + 1), inhOne (all.map Prod.snd) l x = false) := Lib.hid (fun e => HN.out (inhOne_dst (hr.trans e)))
          have HD1 : Hid (r = true → inhOne (all.map Prod.snd) l ⟨.slice As src.length cs, src, .slice Ad dst.length cd, dst, .slice Ae eq.length ce, eq⟩ = (all.map Prod.snd).any (inhBy l ⟨.slice As src.length cs, src, .slice Ad dst.length cd, dst, .slice Ae eq.length ce, eq⟩)) := Lib.hid (fun e => inhOne_of (hr.trans e))
          clear had hr
          refine wp_region_facts (R := fun a b => Below a.heap.size a b) (G := Kept w [fun W => Blk W bx 29 [.slice As src.length cs, .slice Ad dst.length cd, .slice Ae eq.length ce], fun W => HasS W (.slice Ae eq.length ce) eq, fun W => HasM W (.slice As src.length cs) src, fun W => HasM W (.slice Ad dst.length cd) dst, fun W => SetsAt W (some ad0) n all, fun W => HasL W (.slice A0 l.length c0) l, fun W => SilsAt W A1 n1 ss, fun W => InhsAt W (some adh) n2 hs]) (V := fun i' u' W => match i' with | 0 => u' = .pointer (some ⟨bx, 1, none⟩) | 1 => u' = .slice Ad dst.length cd | 2 => u' = .slice (some ad0) n c | 3 => u' = .int .i64 i | 4 => u' = .pointer (some (ad0.add i)) | 5 => u' = .slice A0 l.length c0 | 6 => u' = .bool r | 7 => u' = .bool (!r) | _ => True) (by kernel_rfl) (fun w => Below.refl _ _) (fun a b c h1 h2 => h1.trans (h2.mono h1.size)) (by kernel_rfl) (by kernel_rfl) ?hG ⟨?o0, ?o1, ?o2, ?o3, ?o4, ?o5, ?o6, ?o7, trivial⟩ ?hend
          case o0 =>
            intro a w hfr hG hd
            refine ⟨fun hw => ?_, fun hw => absurd hw (by simp [Region.wanted])⟩
            have s14 : a.tmps.getD 14 undef = .pointer (some ⟨bx, 0, none⟩) := hfr.at 14 (by kernel_rfl)
            refine op_yields (.pointer (some ⟨bx, 1, none⟩)) ?_ ?_ ?_
            · simp only [execOp, resolve, List.map_toArray, List.map_cons, List.map_nil, Act.eval, s14]; simp [go_sem, -Array.getD_eq_getD_getElem?, s14]
            · exact Below.refl _ _
            · exact (fun _ _ => rfl)
          case o1 =>
            intro a w hfr hG hd
            obtain ⟨d0, _⟩ := hd
            refine ⟨fun hw => ?_, fun hw => absurd hw (by simp [Region.wanted])⟩
            have s51 : a.tmps.getD 51 undef = .pointer (some ⟨bx, 1, none⟩) := (d0 rfl).now
            have e9 := hG.now.p0.cell 1; simp only [List.getElem?_cons_zero, List.getElem?_cons_succ] at e9
            refine op_yields (.slice Ad dst.length cd) ?_ ?_ ?_
            · simp only [execOp, resolve, List.map_toArray, List.map_cons, List.map_nil, Act.eval, s51]; simp [go_sem, -Array.getD_eq_getD_getElem?, s51, e9, e9]
            · exact Below.refl _ _
            · exact (fun _ _ => rfl)
          case o2 =>
            intro a w hfr hG hd
            refine ⟨fun hw => ?_, fun hw => absurd hw (by simp [Region.wanted])⟩
            have s0 : a.tmps.getD 0 undef = .slice (some ad0) n c := hfr.at 0 (by kernel_rfl)
            refine op_yields (.slice (some ad0) n c) ?_ ?_ ?_
            · simp only [execOp, resolve, List.map_toArray, List.map_cons, List.map_nil, Act.eval, s0]; simp [go_sem, -Array.getD_eq_getD_getElem?, s0]
            · exact Below.refl _ _
            · exact (fun _ _ => rfl)
          case o3 =>
            intro a w hfr hG hd
            refine ⟨fun hw => ?_, fun hw => absurd hw (by simp [Region.wanted])⟩
            have s1 : a.tmps.getD 1 undef = .int .i64 i := hfr.at 1 (by kernel_rfl)
            refine op_yields (.int .i64 i) ?_ ?_ ?_
            · simp only [execOp, resolve, List.map_toArray, List.map_cons, List.map_nil, Act.eval, s1]; simp [go_sem, -Array.getD_eq_getD_getElem?, s1]
            · exact Below.refl _ _
            · exact (fun _ _ => rfl)
          case o4 =>
            intro a w hfr hG hd
            obtain ⟨d0, d1, _⟩ := hd
            refine ⟨fun hw => ?_, fun hw => absurd hw (by simp [Region.wanted])⟩
            have s53 : a.tmps.getD 53 undef = .slice (some ad0) n c := (d0 rfl).now
            have s54 : a.tmps.getD 54 undef = .int .i64 i := (d1 rfl).now
            refine op_yields (.pointer (some (ad0.add i))) ?_ ?_ ?_
            · simp only [execOp, resolve, List.map_toArray, List.map_cons, List.map_nil, Act.eval, s53, s54]; simp [go_sem, -Array.getD_eq_getD_getElem?, s53, s54, z2, z3]
            · exact Below.refl _ _
            · exact (fun _ _ => rfl)
          case o5 =>
            intro a w hfr hG hd
            obtain ⟨d0, _⟩ := hd
            refine ⟨fun hw => ?_, fun hw => absurd hw (by simp [Region.wanted])⟩
            have s55 : a.tmps.getD 55 undef = .pointer (some (ad0.add i)) := (d0 rfl).now
            have e9 := HCL.out w hG.now.p4
            refine op_yields (.slice A0 l.length c0) ?_ ?_ ?_
            · simp only [execOp, resolve, List.map_toArray, List.map_cons, List.map_nil, Act.eval, s55]; simp [go_sem, -Array.getD_eq_getD_getElem?, s55, e9, e9]
            · exact Below.refl _ _
            · exact (fun _ _ => rfl)
          case o6 =>
            intro a w hfr hG hd
            obtain ⟨d0, d1, _⟩ := hd
            refine ⟨fun hw => ?_, fun hw => absurd hw (by simp [Region.wanted])⟩
            have s52 : a.tmps.getD 52 undef = .slice Ad dst.length cd := (d0 rfl).now
            have s56 : a.tmps.getD 56 undef = .slice A0 l.length c0 := (d1 rfl).now
            refine op_calls2 ((HAD.out w hG.now).mono fun e' w' hh => ⟨_, hh.1, hh.2, (fun _ _ => rfl)⟩) ?_
            simp only [execOp, resolve, List.map_toArray, List.map_cons, List.map_nil, Act.eval, s52, s56]; simp [go_sem, -Array.getD_eq_getD_getElem?, s52, s56]
          case o7 =>
            intro a w hfr hG hd
            obtain ⟨d0, _⟩ := hd
            refine ⟨fun hw => ?_, fun hw => absurd hw (by simp [Region.wanted])⟩
            have s57 : a.tmps.getD 57 undef = .bool r := (d0 rfl).now
            refine op_yields (.bool (!r)) ?_ ?_ ?_
            · simp only [execOp, resolve, List.map_toArray, List.map_cons, List.map_nil, Act.eval, s57]; simp [go_sem, -Array.getD_eq_getD_getElem?, s57]
            · exact Below.refl _ _
            · exact (fun _ _ => rfl)
          case hG => exact fun w' hb => HKB.out.drew.below hb
          case hend =>
            intro vs w' hG hv
            have key : vs 7 = .bool (!r) := by
              obtain ⟨_, _, _, _, _, _, _, h7, _⟩ := hv
              exact h7.now
            have HT2 := Lib.hid hG.now
            clear hv hG HKB HAD
            simp only [putAll, Act.put, key]
            clear key
            go_simp
            cases r with
            | false =>
              have HN1 := Lib.hid (HD0.out rfl)
              clear HD0 HD1 HN HY
              go_wp2_with fail
              go_roundg g
              case measure => omega
              case rel => exact ⟨k + 1, by omega, by go_num, HT2.out.tail.tail.tail.tail, HN1.out⟩
            | true =>
              have HEX := Lib.hid (HD1.out rfl)
              clear HD0 HD1
              go_wp2_with fail
              go_loopg [15, 16, 18, 61] n (fun g2 x15 x16 x18 x61 wj => ∃ j : Nat, j + g2 = n ∧ x61 = .int .i64 j ∧ Kept w [fun W => Blk W bx 29 [.slice As src.length cs, .slice Ad dst.length cd, .slice Ae eq.length ce], fun W => HasS W (.slice Ae eq.length ce) eq, fun W => HasM W (.slice As src.length cs) src, fun W => HasM W (.slice Ad dst.length cd) dst, fun W => SetsAt W (some ad0) n all, fun W => HasL W (.slice A0 l.length c0) l, fun W => SilsAt W A1 n1 ss, fun W => InhsAt W (some adh) n2 hs] wj ∧ ∀ x ∈ all.take j, inhBy l ⟨.slice As src.length cs, src, .slice Ad dst.length cd, dst, .slice Ae eq.length ce, eq⟩ x.2 = false)
              case atStart => exact ⟨0, by omega, rfl, HT2.out, (fun x hx => by simp at hx)⟩
              case round =>
                obtain ⟨j, hjg, rfl, hkept, hnj⟩ := hrel
                have HTJ := Lib.hid hkept; have HNJ := Lib.hid hnj
                clear hkept hnj HT2
                cases gk with
                | zero =>
                  obtain rfl : j = n := by omega
                  have HN1 := Lib.hid (HN.out (by rw [HEX.out, List.any_map]; exact any_no (by rw [HLA.out]; exact Nat.le_refl _) HNJ.out))
                  clear HN HY HEX
                  go_wp2_with fail
                  go_roundg g
                  case measure => omega
                  case rel => exact ⟨k + 1, by omega, by go_num, HTJ.out.tail.tail.tail.tail, HN1.out⟩
                | succ g2 =>
                  have hjn : j < n := by omega
                  obtain ⟨ad1, hjl, hAd, _⟩ := HTJ.out.p4.get hjn
                  have hco : ∀ V : World, SetsAt V (some ad0) n all → ∃ ad, some ad0 = some ad ∧ V.cell? (ad.add j) = some all[j].1 := fun V h => by
                    obtain ⟨ad, _, h1, h2⟩ := h.get hjn; exact ⟨ad, h1, h2⟩
                  have hmo := HTJ.out.p4.each all[j] (List.getElem_mem _)
                  have hro := HRS.out all[j] (List.getElem_mem _)
                  have HMJ : Hid (inhBy l ⟨.slice As src.length cs, src, .slice Ad dst.length cd, dst, .slice Ae eq.length ce, eq⟩ all[j].2 = false → ∀ x ∈ all.take (j + 1), inhBy l ⟨.slice As src.length cs, src, .slice Ad dst.length cd, dst, .slice Ae eq.length ce, eq⟩ x.2 = false) := Lib.hid (fun h => upto_more (p := fun x => inhBy l ⟨.slice As src.length cs, src, .slice Ad dst.length cd, dst, .slice Ae eq.length ce, eq⟩ x.2 = false) hjl HNJ.out h)
                  have HYJ : Hid (inhBy l ⟨.slice As src.length cs, src, .slice Ad dst.length cd, dst, .slice Ae eq.length ce, eq⟩ all[j].2 = true → inhF (all.map Prod.snd) l hs = true) := Lib.hid (fun h => HY.out (by rw [HEX.out, List.any_map]; exact any_yes hjl h))
                  generalize all[j] = oo at *
                  obtain ⟨vo, o⟩ := oo
                  simp only at hmo HMJ HYJ hro hco
                  obtain ⟨Ao, co, rfl⟩ := hmo.form
                  have HKO := Lib.hid (HTJ.out.add hmo.stay)
                  have HCO := Lib.hid (show ∀ V : World, SetsAt V (some ad0) n all → V.cell? (ad0.add j) = some (.slice Ao o.length co) from fun V h => by
                    obtain ⟨ad, h1, h2⟩ := hco V h; injection h1 with h1; subst h1; exact h2)
                  have HRO := Lib.hid hro
                  clear hmo HTJ hco hro hAd
                  have z7 : (j : Int) < n := by omega
                  have z8 : (0 : Int) ≤ j := by omega
                  go_upto_region 14 with fail
                  obtain ⟨P, hP⟩ : ∃ P : ByteArray, (⟨(printL l).toArray⟩ : ByteArray) = P := ⟨_, rfl⟩
                  have hp2 := fun V (h : Kept w [fun W => HasL W (.slice Ao o.length co) o, fun W => Blk W bx 29 [.slice As src.length cs, .slice Ad dst.length cd, .slice Ae eq.length ce], fun W => HasS W (.slice Ae eq.length ce) eq, fun W => HasM W (.slice As src.length cs) src, fun W => HasM W (.slice Ad dst.length cd) dst, fun W => SetsAt W (some ad0) n all, fun W => HasL W (.slice A0 l.length c0) l, fun W => SilsAt W A1 n1 ss, fun W => InhsAt W (some adh) n2 hs] V) => rprint_h h.p6 HRL.out
                  rw [hP] at hp2
                  have HP2 := Lib.hid hp2
                  clear hp2
                  by_cases hol : o = l
                  · have HS1 := Lib.hid (HMJ.out (inhBy_same hol))
                    have hp1 := fun V (h : Kept w [fun W => HasL W (.slice Ao o.length co) o, fun W => Blk W bx 29 [.slice As src.length cs, .slice Ad dst.length cd, .slice Ae eq.length ce], fun W => HasS W (.slice Ae eq.length ce) eq, fun W => HasM W (.slice As src.length cs) src, fun W => HasM W (.slice Ad dst.length cd) dst, fun W => SetsAt W (some ad0) n all, fun W => HasL W (.slice A0 l.length c0) l, fun W => SilsAt W A1 n1 ss, fun W => InhsAt W (some adh) n2 hs] V) => rprint_h h.p0 HRO.out
                    have hpe : (⟨(printL o).toArray⟩ : ByteArray) = P := by rw [hol]; exact hP
                    rw [hpe] at hp1
                    have HP1 := Lib.hid hp1
                    clear hpe
                    have HOL := Lib.hid hol
                    clear hp1 hP hol HMJ HYJ
                    refine wp_region_facts (R := fun a b => Below a.heap.size a b) (G := Kept w [fun W => HasL W (.slice Ao o.length co) o, fun W => Blk W bx 29 [.slice As src.length cs, .slice Ad dst.length cd, .slice Ae eq.length ce], fun W => HasS W (.slice Ae eq.length ce) eq, fun W => HasM W (.slice As src.length cs) src, fun W => HasM W (.slice Ad dst.length cd) dst, fun W => SetsAt W (some ad0) n all, fun W => HasL W (.slice A0 l.length c0) l, fun W => SilsAt W A1 n1 ss, fun W => InhsAt W (some adh) n2 hs]) (V := fun i' u' W => match i' with | 0 => u' = .slice (some ad0) n c | 1 => u' = .int .i64 j | 2 => u' = .pointer (some (ad0.add j)) | 3 => u' = .slice Ao o.length co | 4 => u' = .string P | 5 => u' = .slice (some ad0) n c | 6 => u' = .int .i64 i | 7 => u' = .pointer (some (ad0.add i)) | 8 => u' = .slice A0 l.length c0 | 9 => u' = .string P | 10 => u' = .bool true | 11 => u' = .bool true | 12 => True | 13 => True | 14 => True | 15 => True | 16 => True | 17 => True | 18 => True | 19 => True | 20 => u' = .bool true | _ => True) (by kernel_rfl) (fun w => Below.refl _ _) (fun a b c h1 h2 => h1.trans (h2.mono h1.size)) (by kernel_rfl) (by kernel_rfl) ?hG ⟨?o0, ?o1, ?o2, ?o3, ?o4, ?o5, ?o6, ?o7, ?o8, ?o9, ?o10, ?o11, ?o12, ?o13, ?o14, ?o15, ?o16, ?o17, ?o18, ?o19, ?o20, trivial⟩ ?hend
                    case o0 =>
                      intro a w hfr hG hd
                      refine ⟨fun hw => ?_, fun hw => absurd hw (by simp [Region.wanted])⟩
                      have s0 : a.tmps.getD 0 undef = .slice (some ad0) n c := hfr.at 0 (by kernel_rfl)
                      refine op_yields (.slice (some ad0) n c) ?_ ?_ ?_
                      · simp only [execOp, resolve, List.map_toArray, List.map_cons, List.map_nil, Act.eval, s0]; simp [go_sem, -Array.getD_eq_getD_getElem?, s0]
                      · exact Below.refl _ _
                      · exact (fun _ _ => rfl)
                    case o1 =>
                      intro a w hfr hG hd
                      refine ⟨fun hw => ?_, fun hw => absurd hw (by simp [Region.wanted])⟩
                      have s15 : a.tmps.getD 15 undef = .int .i64 j := hfr.at 15 (by kernel_rfl)
                      refine op_yields (.int .i64 j) ?_ ?_ ?_
                      · simp only [execOp, resolve, List.map_toArray, List.map_cons, List.map_nil, Act.eval, s15]; simp [go_sem, -Array.getD_eq_getD_getElem?, s15]
                      · exact Below.refl _ _
                      · exact (fun _ _ => rfl)
                    case o2 =>
                      intro a w hfr hG hd
                      obtain ⟨d0, d1, _⟩ := hd
                      refine ⟨fun hw => ?_, fun hw => absurd hw (by simp [Region.wanted])⟩
                      have s64 : a.tmps.getD 64 undef = .slice (some ad0) n c := (d0 rfl).now
                      have s65 : a.tmps.getD 65 undef = .int .i64 j := (d1 rfl).now
                      refine op_yields (.pointer (some (ad0.add j))) ?_ ?_ ?_
                      · simp only [execOp, resolve, List.map_toArray, List.map_cons, List.map_nil, Act.eval, s64, s65]; simp [go_sem, -Array.getD_eq_getD_getElem?, s64, s65, z7, z8]
                      · exact Below.refl _ _
                      · exact (fun _ _ => rfl)
                    case o3 =>
                      intro a w hfr hG hd
                      obtain ⟨d0, _⟩ := hd
                      refine ⟨fun hw => ?_, fun hw => absurd hw (by simp [Region.wanted])⟩
                      have s66 : a.tmps.getD 66 undef = .pointer (some (ad0.add j)) := (d0 rfl).now
                      have e9 := HCO.out w hG.now.p5
                      refine op_yields (.slice Ao o.length co) ?_ ?_ ?_
                      · simp only [execOp, resolve, List.map_toArray, List.map_cons, List.map_nil, Act.eval, s66]; simp [go_sem, -Array.getD_eq_getD_getElem?, s66, e9, e9]
                      · exact Below.refl _ _
                      · exact (fun _ _ => rfl)
                    case o4 =>
                      intro a w hfr hG hd
                      obtain ⟨d0, _⟩ := hd
                      refine ⟨fun hw => ?_, fun hw => absurd hw (by simp [Region.wanted])⟩
                      have s67 : a.tmps.getD 67 undef = .slice Ao o.length co := (d0 rfl).now
                      refine op_calls2 ((HP1.out w hG.now).mono fun e' w' hh => ⟨_, hh.1, hh.2, (fun _ _ => rfl)⟩) ?_
                      simp only [execOp, resolve, List.map_toArray, List.map_cons, List.map_nil, Act.eval, s67]; simp [go_sem, -Array.getD_eq_getD_getElem?, s67]
                    case o5 =>
                      intro a w hfr hG hd
                      refine ⟨fun hw => ?_, fun hw => absurd hw (by simp [Region.wanted])⟩
                      have s0 : a.tmps.getD 0 undef = .slice (some ad0) n c := hfr.at 0 (by kernel_rfl)
                      refine op_yields (.slice (some ad0) n c) ?_ ?_ ?_
                      · simp only [execOp, resolve, List.map_toArray, List.map_cons, List.map_nil, Act.eval, s0]; simp [go_sem, -Array.getD_eq_getD_getElem?, s0]
                      · exact Below.refl _ _
                      · exact (fun _ _ => rfl)
                    case o6 =>
                      intro a w hfr hG hd
                      refine ⟨fun hw => ?_, fun hw => absurd hw (by simp [Region.wanted])⟩
                      have s1 : a.tmps.getD 1 undef = .int .i64 i := hfr.at 1 (by kernel_rfl)
                      refine op_yields (.int .i64 i) ?_ ?_ ?_
                      · simp only [execOp, resolve, List.map_toArray, List.map_cons, List.map_nil, Act.eval, s1]; simp [go_sem, -Array.getD_eq_getD_getElem?, s1]
                      · exact Below.refl _ _
                      · exact (fun _ _ => rfl)
                    case o7 =>
                      intro a w hfr hG hd
                      obtain ⟨d0, d1, _⟩ := hd
                      refine ⟨fun hw => ?_, fun hw => absurd hw (by simp [Region.wanted])⟩
                      have s69 : a.tmps.getD 69 undef = .slice (some ad0) n c := (d0 rfl).now
                      have s70 : a.tmps.getD 70 undef = .int .i64 i := (d1 rfl).now
                      refine op_yields (.pointer (some (ad0.add i))) ?_ ?_ ?_
                      · simp only [execOp, resolve, List.map_toArray, List.map_cons, List.map_nil, Act.eval, s69, s70]; simp [go_sem, -Array.getD_eq_getD_getElem?, s69, s70, z2, z3]
                      · exact Below.refl _ _
                      · exact (fun _ _ => rfl)
                    case o8 =>
                      intro a w hfr hG hd
                      obtain ⟨d0, _⟩ := hd
                      refine ⟨fun hw => ?_, fun hw => absurd hw (by simp [Region.wanted])⟩
                      have s71 : a.tmps.getD 71 undef = .pointer (some (ad0.add i)) := (d0 rfl).now
                      have e9 := HCL.out w hG.now.p5
                      refine op_yields (.slice A0 l.length c0) ?_ ?_ ?_
                      · simp only [execOp, resolve, List.map_toArray, List.map_cons, List.map_nil, Act.eval, s71]; simp [go_sem, -Array.getD_eq_getD_getElem?, s71, e9, e9]
                      · exact Below.refl _ _
                      · exact (fun _ _ => rfl)
                    case o9 =>
                      intro a w hfr hG hd
                      obtain ⟨d0, d1, _⟩ := hd
                      refine ⟨fun hw => ?_, fun hw => absurd hw (by simp [Region.wanted])⟩
                      have s72 : a.tmps.getD 72 undef = .slice A0 l.length c0 := (d0 rfl).now
                      refine op_calls2 ((HP2.out w hG.now).mono fun e' w' hh => ⟨_, hh.1, hh.2, (fun _ _ => rfl)⟩) ?_
                      simp only [execOp, resolve, List.map_toArray, List.map_cons, List.map_nil, Act.eval, s72]; simp [go_sem, -Array.getD_eq_getD_getElem?, s72]
                    case o10 =>
                      intro a w hfr hG hd
                      obtain ⟨d0, d1, _⟩ := hd
                      refine ⟨fun hw => ?_, fun hw => absurd hw (by simp [Region.wanted])⟩
                      have s68 : a.tmps.getD 68 undef = .string P := (d0 rfl).now
                      have s73 : a.tmps.getD 73 undef = .string P := (d1 rfl).now
                      refine op_yields (.bool true) ?_ ?_ ?_
                      · simp only [execOp, resolve, List.map_toArray, List.map_cons, List.map_nil, Act.eval, s68, s73]; simp [go_sem, -Array.getD_eq_getD_getElem?, s68, s73]
                      · exact Below.refl _ _
                      · exact (fun _ _ => rfl)
                    case o11 =>
                      intro a w hfr hG hd
                      obtain ⟨d0, d1, _⟩ := hd
                      refine ⟨fun hw => ?_, fun hw => absurd hw (by simp [Region.wanted])⟩
                      have s74 : a.tmps.getD 74 undef = .bool true := (d0 rfl).now
                      refine op_yields (.bool true) ?_ ?_ ?_
                      · simp only [execOp, resolve, List.map_toArray, List.map_cons, List.map_nil, Act.eval, s74]; simp [go_sem, -Array.getD_eq_getD_getElem?, s74]
                      · exact Below.refl _ _
                      · exact (fun _ _ => rfl)
                    case o12 =>
                      intro a w hfr hG hd
                      obtain ⟨d0, _⟩ := hd
                      have sg : a.tmps.getD 75 undef = .bool true := (d0 rfl).now
                      refine ⟨fun hw => ?_, fun hw => fun _ _ => trivial⟩
                      rw [wanted_of rfl (yielded_of rfl sg)] at hw; exact absurd hw (by decide)
                    case o13 =>
                      intro a w hfr hG hd
                      obtain ⟨d0, d1, _⟩ := hd
                      have sg : a.tmps.getD 75 undef = .bool true := (d1 rfl).now
                      refine ⟨fun hw => ?_, fun hw => fun _ _ => trivial⟩
                      rw [wanted_of rfl (yielded_of rfl sg)] at hw; exact absurd hw (by decide)
                    case o14 =>
                      intro a w hfr hG hd
                      obtain ⟨d0, _⟩ := hd
                      have sg : a.tmps.getD 75 undef = .bool true := (d0 rfl).now
                      refine ⟨fun hw => ?_, fun hw => fun _ _ => trivial⟩
                      rw [wanted_of rfl (yielded_of rfl sg)] at hw; exact absurd hw (by decide)
                    case o15 =>
                      intro a w hfr hG hd
                      obtain ⟨d0, _⟩ := hd
                      have sg : a.tmps.getD 75 undef = .bool true := (d0 rfl).now
                      refine ⟨fun hw => ?_, fun hw => fun _ _ => trivial⟩
                      rw [wanted_of rfl (yielded_of rfl sg)] at hw; exact absurd hw (by decide)
                    case o16 =>
                      intro a w hfr hG hd
                      obtain ⟨d0, d1, d2, _⟩ := hd
                      have sg : a.tmps.getD 75 undef = .bool true := (d2 rfl).now
                      refine ⟨fun hw => ?_, fun hw => fun _ _ => trivial⟩
                      rw [wanted_of rfl (yielded_of rfl sg)] at hw; exact absurd hw (by decide)
                    case o17 =>
                      intro a w hfr hG hd
                      obtain ⟨d0, d1, _⟩ := hd
                      have sg : a.tmps.getD 75 undef = .bool true := (d1 rfl).now
                      refine ⟨fun hw => ?_, fun hw => fun _ _ => trivial⟩
                      rw [wanted_of rfl (yielded_of rfl sg)] at hw; exact absurd hw (by decide)
                    case o18 =>
                      intro a w hfr hG hd
                      obtain ⟨d0, d1, d2, d3, _⟩ := hd
                      have sg : a.tmps.getD 75 undef = .bool true := (d2 rfl).now
                      refine ⟨fun hw => ?_, fun hw => fun _ _ => trivial⟩
                      rw [wanted_of rfl (yielded_of rfl sg)] at hw; exact absurd hw (by decide)
                    case o19 =>
                      intro a w hfr hG hd
                      obtain ⟨d0, d1, _⟩ := hd
                      have sg : a.tmps.getD 75 undef = .bool true := (d1 rfl).now
                      refine ⟨fun hw => ?_, fun hw => fun _ _ => trivial⟩
                      rw [wanted_of rfl (yielded_of rfl sg)] at hw; exact absurd hw (by decide)
                    case o20 =>
                      intro a w hfr hG hd
                      obtain ⟨d0, d1, _⟩ := hd
                      refine ⟨fun hw => ?_, fun hw => absurd hw (by simp [Region.wanted])⟩
                      have s75 : a.tmps.getD 75 undef = .bool true := (d0 rfl).now
                      refine op_yields (.bool true) ?_ ?_ ?_
                      · simp only [execOp, resolve, List.map_toArray, List.map_cons, List.map_nil, Act.eval, s75]; simp [go_sem, -Array.getD_eq_getD_getElem?, s75]
                      · exact Below.refl _ _
                      · exact (fun _ _ => rfl)
                    case hG => exact fun w' hb => HKO.out.drew.below hb
                    case hend =>
                      intro vs w' hG hv
                      have key : vs 20 = .bool true := by
                        obtain ⟨_, _, _, _, _, _, _, _, _, _, _, _, _, _, _, _, _, _, _, _, h20, _⟩ := hv
                        exact h20.now
                      have HT3 := Lib.hid hG.now
                      clear hv hG HKO HP1 HP2
                      simp only [putAll, Act.put, key]
                      clear key
                      go_simp
                      go_wp2_with fail
                      go_roundg g2
                      case measure => omega
                      case rel => exact ⟨j + 1, by omega, by go_num, HT3.out.tail, HS1.out⟩
                  · obtain ⟨PO, hPO⟩ : ∃ P : ByteArray, (⟨(printL o).toArray⟩ : ByteArray) = P := ⟨_, rfl⟩
                    have hp1 := fun V (h : Kept w [fun W => HasL W (.slice Ao o.length co) o, fun W => Blk W bx 29 [.slice As src.length cs, .slice Ad dst.length cd, .slice Ae eq.length ce], fun W => HasS W (.slice Ae eq.length ce) eq, fun W => HasM W (.slice As src.length cs) src, fun W => HasM W (.slice Ad dst.length cd) dst, fun W => SetsAt W (some ad0) n all, fun W => HasL W (.slice A0 l.length c0) l, fun W => SilsAt W A1 n1 ss, fun W => InhsAt W (some adh) n2 hs] V) => rprint_h h.p0 HRO.out
                    rw [hPO] at hp1
                    have HP1 := Lib.hid hp1
                    have t1 : (PO.toList == P.toList) = false := by
                      rw [beq_eq_false_iff_ne]
                      intro e
                      have e2 := ba_ext e
                      rw [← hP, ← hPO] at e2
                      injection e2 with e2
                      exact hol (print_inj HRO.out HRL.out (by have h := congrArg Array.toList e2; simpa using h))
                    obtain ⟨rs, hrs2⟩ : ∃ r, allF o src = r := ⟨_, rfl⟩
                    have has_ := fun V (h : Kept w [fun W => HasL W (.slice Ao o.length co) o, fun W => Blk W bx 29 [.slice As src.length cs, .slice Ad dst.length cd, .slice Ae eq.length ce], fun W => HasS W (.slice Ae eq.length ce) eq, fun W => HasM W (.slice As src.length cs) src, fun W => HasM W (.slice Ad dst.length cd) dst, fun W => SetsAt W (some ad0) n all, fun W => HasL W (.slice A0 l.length c0) l, fun W => SilsAt W A1 n1 ss, fun W => InhsAt W (some adh) n2 hs] V) => refAll_h h.p0 h.p3 HZ.out.1
                    rw [hrs2] at has_
                    have HAS := Lib.hid has_
                    have HR0 : Hid (rs = false → ∀ x ∈ all.take (j + 1), inhBy l ⟨.slice As src.length cs, src, .slice Ad dst.length cd, dst, .slice Ae eq.length ce, eq⟩ x.2 = false) := Lib.hid (fun e => HMJ.out (inhBy_src (hrs2.trans e)))
                    have HM1 : Hid (rs = true → (eq.all fun n => decide (getF o n = getF l n)) = false → ∀ x ∈ all.take (j + 1), inhBy l ⟨.slice As src.length cs, src, .slice Ad dst.length cd, dst, .slice Ae eq.length ce, eq⟩ x.2 = false) := Lib.hid (fun e h => HMJ.out (inhBy_eq h))
                    have HM2 : Hid (rs = true → (eq.all fun n => decide (getF o n = getF l n)) = true → inhF (all.map Prod.snd) l hs = true) := Lib.hid (fun e h => HYJ.out (inhBy_yes hol (hrs2.trans e) h))
                    clear hp1 hP hPO hol HMJ HYJ has_ hrs2
                    refine wp_region_facts (R := fun a b => Below a.heap.size a b) (G := Kept w [fun W => HasL W (.slice Ao o.length co) o, fun W => Blk W bx 29 [.slice As src.length cs, .slice Ad dst.length cd, .slice Ae eq.length ce], fun W => HasS W (.slice Ae eq.length ce) eq, fun W => HasM W (.slice As src.length cs) src, fun W => HasM W (.slice Ad dst.length cd) dst, fun W => SetsAt W (some ad0) n all, fun W => HasL W (.slice A0 l.length c0) l, fun W => SilsAt W A1 n1 ss, fun W => InhsAt W (some adh) n2 hs]) (V := fun i' u' W => match i' with | 0 => u' = .slice (some ad0) n c | 1 => u' = .int .i64 j | 2 => u' = .pointer (some (ad0.add j)) | 3 => u' = .slice Ao o.length co | 4 => u' = .string PO | 5 => u' = .slice (some ad0) n c | 6 => u' = .int .i64 i | 7 => u' = .pointer (some (ad0.add i)) | 8 => u' = .slice A0 l.length c0 | 9 => u' = .string P | 10 => u' = .bool false | 11 => u' = .bool false | 12 => u' = .pointer (some ⟨bx, 0, none⟩) | 13 => u' = .slice As src.length cs | 14 => u' = .slice (some ad0) n c | 15 => u' = .int .i64 j | 16 => u' = .pointer (some (ad0.add j)) | 17 => u' = .slice Ao o.length co | 18 => u' = .bool rs | 19 => u' = .bool (!rs) | 20 => u' = .bool (!rs) | _ => True) (by kernel_rfl) (fun w => Below.refl _ _) (fun a b c h1 h2 => h1.trans (h2.mono h1.size)) (by kernel_rfl) (by kernel_rfl) ?hG ⟨?o0, ?o1, ?o2, ?o3, ?o4, ?o5, ?o6, ?o7, ?o8, ?o9, ?o10, ?o11, ?o12, ?o13, ?o14, ?o15, ?o16, ?o17, ?o18, ?o19, ?o20, trivial⟩ ?hend
                    case o0 =>
                      intro a w hfr hG hd
                      refine ⟨fun hw => ?_, fun hw => absurd hw (by simp [Region.wanted])⟩
                      have s0 : a.tmps.getD 0 undef = .slice (some ad0) n c := hfr.at 0 (by kernel_rfl)
                      refine op_yields (.slice (some ad0) n c) ?_ ?_ ?_
                      · simp only [execOp, resolve, List.map_toArray, List.map_cons, List.map_nil, Act.eval, s0]; simp [go_sem, -Array.getD_eq_getD_getElem?, s0]
                      · exact Below.refl _ _
                      · exact (fun _ _ => rfl)
                    case o1 =>
                      intro a w hfr hG hd
                      refine ⟨fun hw => ?_, fun hw => absurd hw (by simp [Region.wanted])⟩
                      have s15 : a.tmps.getD 15 undef = .int .i64 j := hfr.at 15 (by kernel_rfl)
                      refine op_yields (.int .i64 j) ?_ ?_ ?_
                      · simp only [execOp, resolve, List.map_toArray, List.map_cons, List.map_nil, Act.eval, s15]; simp [go_sem, -Array.getD_eq_getD_getElem?, s15]
                      · exact Below.refl _ _
                      · exact (fun _ _ => rfl)
                    case o2 =>
                      intro a w hfr hG hd
                      obtain ⟨d0, d1, _⟩ := hd
                      refine ⟨fun hw => ?_, fun hw => absurd hw (by simp [Region.wanted])⟩
                      have s64 : a.tmps.getD 64 undef = .slice (some ad0) n c := (d0 rfl).now
                      have s65 : a.tmps.getD 65 undef = .int .i64 j := (d1 rfl).now
                      refine op_yields (.pointer (some (ad0.add j))) ?_ ?_ ?_
                      · simp only [execOp, resolve, List.map_toArray, List.map_cons, List.map_nil, Act.eval, s64, s65]; simp [go_sem, -Array.getD_eq_getD_getElem?, s64, s65, z7, z8]
                      · exact Below.refl _ _
                      · exact (fun _ _ => rfl)
                    case o3 =>
                      intro a w hfr hG hd
                      obtain ⟨d0, _⟩ := hd
                      refine ⟨fun hw => ?_, fun hw => absurd hw (by simp [Region.wanted])⟩
                      have s66 : a.tmps.getD 66 undef = .pointer (some (ad0.add j)) := (d0 rfl).now
                      have e9 := HCO.out w hG.now.p5
                      refine op_yields (.slice Ao o.length co) ?_ ?_ ?_
                      · simp only [execOp, resolve, List.map_toArray, List.map_cons, List.map_nil, Act.eval, s66]; simp [go_sem, -Array.getD_eq_getD_getElem?, s66, e9, e9]
                      · exact Below.refl _ _
                      · exact (fun _ _ => rfl)
                    case o4 =>
                      intro a w hfr hG hd
                      obtain ⟨d0, _⟩ := hd
                      refine ⟨fun hw => ?_, fun hw => absurd hw (by simp [Region.wanted])⟩
                      have s67 : a.tmps.getD 67 undef = .slice Ao o.length co := (d0 rfl).now
                      refine op_calls2 ((HP1.out w hG.now).mono fun e' w' hh => ⟨_, hh.1, hh.2, (fun _ _ => rfl)⟩) ?_
                      simp only [execOp, resolve, List.map_toArray, List.map_cons, List.map_nil, Act.eval, s67]; simp [go_sem, -Array.getD_eq_getD_getElem?, s67]
                    case o5 =>
                      intro a w hfr hG hd
                      refine ⟨fun hw => ?_, fun hw => absurd hw (by simp [Region.wanted])⟩
                      have s0 : a.tmps.getD 0 undef = .slice (some ad0) n c := hfr.at 0 (by kernel_rfl)
                      refine op_yields (.slice (some ad0) n c) ?_ ?_ ?_
                      · simp only [execOp, resolve, List.map_toArray, List.map_cons, List.map_nil, Act.eval, s0]; simp [go_sem, -Array.getD_eq_getD_getElem?, s0]
                      · exact Below.refl _ _
                      · exact (fun _ _ => rfl)
                    case o6 =>
                      intro a w hfr hG hd
                      refine ⟨fun hw => ?_, fun hw => absurd hw (by simp [Region.wanted])⟩
                      have s1 : a.tmps.getD 1 undef = .int .i64 i := hfr.at 1 (by kernel_rfl)
                      refine op_yields (.int .i64 i) ?_ ?_ ?_
                      · simp only [execOp, resolve, List.map_toArray, List.map_cons, List.map_nil, Act.eval, s1]; simp [go_sem, -Array.getD_eq_getD_getElem?, s1]
                      · exact Below.refl _ _
                      · exact (fun _ _ => rfl)
                    case o7 =>
                      intro a w hfr hG hd
                      obtain ⟨d0, d1, _⟩ := hd
                      refine ⟨fun hw => ?_, fun hw => absurd hw (by simp [Region.wanted])⟩
                      have s69 : a.tmps.getD 69 undef = .slice (some ad0) n c := (d0 rfl).now
                      have s70 : a.tmps.getD 70 undef = .int .i64 i := (d1 rfl).now
                      refine op_yields (.pointer (some (ad0.add i))) ?_ ?_ ?_
                      · simp only [execOp, resolve, List.map_toArray, List.map_cons, List.map_nil, Act.eval, s69, s70]; simp [go_sem, -Array.getD_eq_getD_getElem?, s69, s70, z2, z3]
                      · exact Below.refl _ _
                      · exact (fun _ _ => rfl)
                    case o8 =>
                      intro a w hfr hG hd
                      obtain ⟨d0, _⟩ := hd
                      refine ⟨fun hw => ?_, fun hw => absurd hw (by simp [Region.wanted])⟩
                      have s71 : a.tmps.getD 71 undef = .pointer (some (ad0.add i)) := (d0 rfl).now
                      have e9 := HCL.out w hG.now.p5
                      refine op_yields (.slice A0 l.length c0) ?_ ?_ ?_
                      · simp only [execOp, resolve, List.map_toArray, List.map_cons, List.map_nil, Act.eval, s71]; simp [go_sem, -Array.getD_eq_getD_getElem?, s71, e9, e9]
                      · exact Below.refl _ _
                      · exact (fun _ _ => rfl)
                    case o9 =>
                      intro a w hfr hG hd
                      obtain ⟨d0, d1, _⟩ := hd
                      refine ⟨fun hw => ?_, fun hw => absurd hw (by simp [Region.wanted])⟩
                      have s72 : a.tmps.getD 72 undef = .slice A0 l.length c0 := (d0 rfl).now
                      refine op_calls2 ((HP2.out w hG.now).mono fun e' w' hh => ⟨_, hh.1, hh.2, (fun _ _ => rfl)⟩) ?_
                      simp only [execOp, resolve, List.map_toArray, List.map_cons, List.map_nil, Act.eval, s72]; simp [go_sem, -Array.getD_eq_getD_getElem?, s72]
                    case o10 =>
                      intro a w hfr hG hd
                      obtain ⟨d0, d1, _⟩ := hd
                      refine ⟨fun hw => ?_, fun hw => absurd hw (by simp [Region.wanted])⟩
                      have s68 : a.tmps.getD 68 undef = .string PO := (d0 rfl).now
                      have s73 : a.tmps.getD 73 undef = .string P := (d1 rfl).now
                      refine op_yields (.bool false) ?_ ?_ ?_
                      · simp only [execOp, resolve, List.map_toArray, List.map_cons, List.map_nil, Act.eval, s68, s73]; simp [go_sem, -Array.getD_eq_getD_getElem?, s68, s73, t1]
                      · exact Below.refl _ _
                      · exact (fun _ _ => rfl)
                    case o11 =>
                      intro a w hfr hG hd
                      obtain ⟨d0, d1, _⟩ := hd
                      refine ⟨fun hw => ?_, fun hw => absurd hw (by simp [Region.wanted])⟩
                      have s74 : a.tmps.getD 74 undef = .bool false := (d0 rfl).now
                      refine op_yields (.bool false) ?_ ?_ ?_
                      · simp only [execOp, resolve, List.map_toArray, List.map_cons, List.map_nil, Act.eval, s74]; simp [go_sem, -Array.getD_eq_getD_getElem?, s74]
                      · exact Below.refl _ _
                      · exact (fun _ _ => rfl)
                    case o12 =>
                      intro a w hfr hG hd
                      obtain ⟨d0, _⟩ := hd
                      have sg : a.tmps.getD 75 undef = .bool false := (d0 rfl).now
                      refine ⟨fun hw => ?_, fun hw => by rw [wanted_of rfl (yielded_of rfl sg)] at hw; exact absurd hw (by decide)⟩
                      have s14 : a.tmps.getD 14 undef = .pointer (some ⟨bx, 0, none⟩) := hfr.at 14 (by kernel_rfl)
                      refine op_yields (.pointer (some ⟨bx, 0, none⟩)) ?_ ?_ ?_
                      · simp only [execOp, resolve, List.map_toArray, List.map_cons, List.map_nil, Act.eval, s14]; simp [go_sem, -Array.getD_eq_getD_getElem?, s14]
                      · exact Below.refl _ _
                      · exact (fun _ _ => rfl)
                    case o13 =>
                      intro a w hfr hG hd
                      obtain ⟨d0, d1, _⟩ := hd
                      have sg : a.tmps.getD 75 undef = .bool false := (d1 rfl).now
                      refine ⟨fun hw => ?_, fun hw => by rw [wanted_of rfl (yielded_of rfl sg)] at hw; exact absurd hw (by decide)⟩
                      have s76 : a.tmps.getD 76 undef = .pointer (some ⟨bx, 0, none⟩) := (d0 rfl).now
                      have e9 := hG.now.p1.cell 0; simp only [List.getElem?_cons_zero, List.getElem?_cons_succ] at e9
                      refine op_yields (.slice As src.length cs) ?_ ?_ ?_
                      · simp only [execOp, resolve, List.map_toArray, List.map_cons, List.map_nil, Act.eval, s76]; simp [go_sem, -Array.getD_eq_getD_getElem?, s76, e9, e9]
                      · exact Below.refl _ _
                      · exact (fun _ _ => rfl)
                    case o14 =>
                      intro a w hfr hG hd
                      obtain ⟨d0, _⟩ := hd
                      have sg : a.tmps.getD 75 undef = .bool false := (d0 rfl).now
                      refine ⟨fun hw => ?_, fun hw => by rw [wanted_of rfl (yielded_of rfl sg)] at hw; exact absurd hw (by decide)⟩
                      have s0 : a.tmps.getD 0 undef = .slice (some ad0) n c := hfr.at 0 (by kernel_rfl)
                      refine op_yields (.slice (some ad0) n c) ?_ ?_ ?_
                      · simp only [execOp, resolve, List.map_toArray, List.map_cons, List.map_nil, Act.eval, s0]; simp [go_sem, -Array.getD_eq_getD_getElem?, s0]
                      · exact Below.refl _ _
                      · exact (fun _ _ => rfl)
                    case o15 =>
                      intro a w hfr hG hd
                      obtain ⟨d0, _⟩ := hd
                      have sg : a.tmps.getD 75 undef = .bool false := (d0 rfl).now
                      refine ⟨fun hw => ?_, fun hw => by rw [wanted_of rfl (yielded_of rfl sg)] at hw; exact absurd hw (by decide)⟩
                      have s15 : a.tmps.getD 15 undef = .int .i64 j := hfr.at 15 (by kernel_rfl)
                      refine op_yields (.int .i64 j) ?_ ?_ ?_
                      · simp only [execOp, resolve, List.map_toArray, List.map_cons, List.map_nil, Act.eval, s15]; simp [go_sem, -Array.getD_eq_getD_getElem?, s15]
                      · exact Below.refl _ _
                      · exact (fun _ _ => rfl)
                    case o16 =>
                      intro a w hfr hG hd
                      obtain ⟨d0, d1, d2, _⟩ := hd
                      have sg : a.tmps.getD 75 undef = .bool false := (d2 rfl).now
                      refine ⟨fun hw => ?_, fun hw => by rw [wanted_of rfl (yielded_of rfl sg)] at hw; exact absurd hw (by decide)⟩
                      have s78 : a.tmps.getD 78 undef = .slice (some ad0) n c := (d0 rfl).now
                      have s79 : a.tmps.getD 79 undef = .int .i64 j := (d1 rfl).now
                      refine op_yields (.pointer (some (ad0.add j))) ?_ ?_ ?_
                      · simp only [execOp, resolve, List.map_toArray, List.map_cons, List.map_nil, Act.eval, s78, s79]; simp [go_sem, -Array.getD_eq_getD_getElem?, s78, s79, z7, z8]
                      · exact Below.refl _ _
                      · exact (fun _ _ => rfl)
                    case o17 =>
                      intro a w hfr hG hd
                      obtain ⟨d0, d1, _⟩ := hd
                      have sg : a.tmps.getD 75 undef = .bool false := (d1 rfl).now
                      refine ⟨fun hw => ?_, fun hw => by rw [wanted_of rfl (yielded_of rfl sg)] at hw; exact absurd hw (by decide)⟩
                      have s80 : a.tmps.getD 80 undef = .pointer (some (ad0.add j)) := (d0 rfl).now
                      have e9 := HCO.out w hG.now.p5
                      refine op_yields (.slice Ao o.length co) ?_ ?_ ?_
                      · simp only [execOp, resolve, List.map_toArray, List.map_cons, List.map_nil, Act.eval, s80]; simp [go_sem, -Array.getD_eq_getD_getElem?, s80, e9, e9]
                      · exact Below.refl _ _
                      · exact (fun _ _ => rfl)
                    case o18 =>
                      intro a w hfr hG hd
                      obtain ⟨d0, d1, d2, d3, _⟩ := hd
                      have sg : a.tmps.getD 75 undef = .bool false := (d2 rfl).now
                      refine ⟨fun hw => ?_, fun hw => by rw [wanted_of rfl (yielded_of rfl sg)] at hw; exact absurd hw (by decide)⟩
                      have s77 : a.tmps.getD 77 undef = .slice As src.length cs := (d0 rfl).now
                      have s81 : a.tmps.getD 81 undef = .slice Ao o.length co := (d1 rfl).now
                      refine op_calls2 ((HAS.out w hG.now).mono fun e' w' hh => ⟨_, hh.1, hh.2, (fun _ _ => rfl)⟩) ?_
                      simp only [execOp, resolve, List.map_toArray, List.map_cons, List.map_nil, Act.eval, s77, s81]; simp [go_sem, -Array.getD_eq_getD_getElem?, s77, s81]
                    case o19 =>
                      intro a w hfr hG hd
                      obtain ⟨d0, d1, _⟩ := hd
                      have sg : a.tmps.getD 75 undef = .bool false := (d1 rfl).now
                      refine ⟨fun hw => ?_, fun hw => by rw [wanted_of rfl (yielded_of rfl sg)] at hw; exact absurd hw (by decide)⟩
                      have s82 : a.tmps.getD 82 undef = .bool rs := (d0 rfl).now
                      refine op_yields (.bool (!rs)) ?_ ?_ ?_
                      · simp only [execOp, resolve, List.map_toArray, List.map_cons, List.map_nil, Act.eval, s82]; simp [go_sem, -Array.getD_eq_getD_getElem?, s82]
                      · exact Below.refl _ _
                      · exact (fun _ _ => rfl)
                    case o20 =>
                      intro a w hfr hG hd
                      obtain ⟨d0, d1, _⟩ := hd
                      refine ⟨fun hw => ?_, fun hw => absurd hw (by simp [Region.wanted])⟩
                      have s75 : a.tmps.getD 75 undef = .bool false := (d0 rfl).now
                      have s83 : a.tmps.getD 83 undef = .bool (!rs) := (d1 rfl).now
                      refine op_yields (.bool (!rs)) ?_ ?_ ?_
                      · simp only [execOp, resolve, List.map_toArray, List.map_cons, List.map_nil, Act.eval, s75, s83]; simp [go_sem, -Array.getD_eq_getD_getElem?, s75, s83]
                      · exact Below.refl _ _
                      · exact (fun _ _ => rfl)
                    case hG => exact fun w' hb => HKO.out.drew.below hb
                    case hend =>
                      intro vs w' hG hv
                      have key : vs 20 = .bool (!rs) := by
                        obtain ⟨_, _, _, _, _, _, _, _, _, _, _, _, _, _, _, _, _, _, _, _, h20, _⟩ := hv
                        exact h20.now
                      have HT3 := Lib.hid hG.now
                      clear hv hG HKO HP1 HP2 HAS t1
                      simp only [putAll, Act.put, key]
                      clear key
                      go_simp
                      cases rs with
                      | false =>
                        have HS1 := Lib.hid (HR0.out rfl)
                        clear HR0 HM1 HM2
                        go_wp2_with fail
                        go_roundg g2
                        case measure => omega
                        case rel => exact ⟨j + 1, by omega, by go_num, HT3.out.tail, HS1.out⟩
                      | true =>
                        have HM3 := Lib.hid (HM1.out rfl)
                        have HM4 := Lib.hid (HM2.out rfl)
                        clear HR0 HM1 HM2
                        have g2c := HT3.out.p1.cell 2
                        simp only [List.getElem?_cons_zero, List.getElem?_cons_succ] at g2c
                        go_wp2_with fail
                        go_loopg [16, 18, 88] eq.length (fun g3 x16 x18 x88 wn => ∃ q : Nat, q + g3 = eq.length ∧ x88 = .int .i64 q ∧ x16 = .bool ((eq.take q).all fun n => decide (getF o n = getF l n)) ∧ Kept w [fun W => HasL W (.slice Ao o.length co) o, fun W => Blk W bx 29 [.slice As src.length cs, .slice Ad dst.length cd, .slice Ae eq.length ce], fun W => HasS W (.slice Ae eq.length ce) eq, fun W => HasM W (.slice As src.length cs) src, fun W => HasM W (.slice Ad dst.length cd) dst, fun W => SetsAt W (some ad0) n all, fun W => HasL W (.slice A0 l.length c0) l, fun W => SilsAt W A1 n1 ss, fun W => InhsAt W (some adh) n2 hs] wn)
                        case atStart => exact ⟨0, by omega, rfl, rfl, HT3.out⟩
                        case round =>
                          obtain ⟨q, hqg, rfl, rfl, hkept⟩ := hrel
                          have HTQ := Lib.hid hkept
                          clear hkept HT3 g2c
                          cases gk with
                          | zero =>
                            have hqe : q = eq.length := by omega
                            have HTK := Lib.hid (show eq.take q = eq from List.take_of_length_le (by rw [hqe]; exact Nat.le_refl _))
                            rw [HTK.out]
                            obtain ⟨sm, hsm⟩ : ∃ b, (eq.all fun n => decide (getF o n = getF l n)) = b := ⟨_, rfl⟩
                            rw [hsm] at HM3 HM4
                            rw [hsm]
                            clear hsm
                            cases sm with
                            | false =>
                              have HS1 := Lib.hid (HM3.out rfl)
                              clear HM3 HM4
                              go_wp2_with fail
                              go_roundg g2
                              case measure => omega
                              case rel => exact ⟨j + 1, by omega, by go_num, HTQ.out.tail, HS1.out⟩
                            | true =>
                              have HE := Lib.hid (HM4.out rfl)
                              clear HM3 HM4
                              go_wp2_with fail
                              go_ret
                              exact ⟨by rw [HE.out, Bool.or_true]; rfl, HTQ.out.bel⟩
                          | succ g3 =>
                            have hql : q < eq.length := by omega
                            obtain ⟨ae, hqq, hAe, e3⟩ := HTQ.out.p2.sees.str hql
                            have HX0 := Lib.hid (show ((eq.take (q + 1)).all fun n => decide (getF o n = getF l n)) = (((eq.take q).all fun n => decide (getF o n = getF l n)) && decide (getF o eq[q] = getF l eq[q])) by
                              rw [List.take_succ_eq_append_getElem hqq, List.all_append]; simp)
                            generalize eq[q] = nm at *
                            have H1 := Lib.hid (fun V (h : Kept w [fun W => HasL W (.slice Ao o.length co) o, fun W => Blk W bx 29 [.slice As src.length cs, .slice Ad dst.length cd, .slice Ae eq.length ce], fun W => HasS W (.slice Ae eq.length ce) eq, fun W => HasM W (.slice As src.length cs) src, fun W => HasM W (.slice Ad dst.length cd) dst, fun W => SetsAt W (some ad0) n all, fun W => HasL W (.slice A0 l.length c0) l, fun W => SilsAt W A1 n1 ss, fun W => InhsAt W (some adh) n2 hs] V) => refGet_h h.p0 nm)
                            have H2 := Lib.hid (fun V (h : Kept w [fun W => HasL W (.slice Ao o.length co) o, fun W => Blk W bx 29 [.slice As src.length cs, .slice Ad dst.length cd, .slice Ae eq.length ce], fun W => HasS W (.slice Ae eq.length ce) eq, fun W => HasM W (.slice As src.length cs) src, fun W => HasM W (.slice Ad dst.length cd) dst, fun W => SetsAt W (some ad0) n all, fun W => HasL W (.slice A0 l.length c0) l, fun W => SilsAt W A1 n1 ss, fun W => InhsAt W (some adh) n2 hs] V) => refGet_h h.p6 nm)
                            subst hAe
                            obtain ⟨qb, hqb⟩ : ∃ b, ((eq.take q).all fun n => decide (getF o n = getF l n)) = b := ⟨_, rfl⟩
                            rw [hqb] at HX0
                            rw [hqb]
                            clear hqb
                            generalize getF o nm = xo at *
                            generalize getF l nm = xl at *
                            go_upto_region 19 with fail
                            cases qb with
                            | false =>
                              have HN1 := Lib.hid (HX0.out.trans (Bool.false_and _))
                              clear HX0
                              refine wp_region_facts (R := fun a b => Below a.heap.size a b) (G := Kept w [fun W => HasL W (.slice Ao o.length co) o, fun W => Blk W bx 29 [.slice As src.length cs, .slice Ad dst.length cd, .slice (some ae) eq.length ce], fun W => HasS W (.slice (some ae) eq.length ce) eq, fun W => HasM W (.slice As src.length cs) src, fun W => HasM W (.slice Ad dst.length cd) dst, fun W => SetsAt W (some ad0) n all, fun W => HasL W (.slice A0 l.length c0) l, fun W => SilsAt W A1 n1 ss, fun W => InhsAt W (some adh) n2 hs]) (V := fun i' u' W => match i' with | 0 => u' = .bool false | 1 => u' = .bool false | 2 => True | 3 => True | 4 => True | 5 => True | 6 => True | 7 => True | 8 => True | 9 => True | 10 => True | 11 => True | 12 => True | 13 => True | 14 => True | 15 => u' = .bool false | 16 => u' = .bool false | _ => True) (by kernel_rfl) (fun w => Below.refl _ _) (fun a b c h1 h2 => h1.trans (h2.mono h1.size)) (by kernel_rfl) (by kernel_rfl) ?hG ⟨?o0, ?o1, ?o2, ?o3, ?o4, ?o5, ?o6, ?o7, ?o8, ?o9, ?o10, ?o11, ?o12, ?o13, ?o14, ?o15, ?o16, trivial⟩ ?hend
                              case o0 =>
                                intro a w hfr hG hd
                                refine ⟨fun hw => ?_, fun hw => absurd hw (by simp [Region.wanted])⟩
                                have s16 : a.tmps.getD 16 undef = .bool false := hfr.at 16 (by kernel_rfl)
                                refine op_yields (.bool false) ?_ ?_ ?_
                                · simp only [execOp, resolve, List.map_toArray, List.map_cons, List.map_nil, Act.eval, s16]; simp [go_sem, -Array.getD_eq_getD_getElem?, s16]
                                · exact Below.refl _ _
                                · exact (fun _ _ => rfl)
                              case o1 =>
                                intro a w hfr hG hd
                                obtain ⟨d0, _⟩ := hd
                                refine ⟨fun hw => ?_, fun hw => absurd hw (by simp [Region.wanted])⟩
                                have s92 : a.tmps.getD 92 undef = .bool false := (d0 rfl).now
                                refine op_yields (.bool false) ?_ ?_ ?_
                                · simp only [execOp, resolve, List.map_toArray, List.map_cons, List.map_nil, Act.eval, s92]; simp [go_sem, -Array.getD_eq_getD_getElem?, s92]
                                · exact Below.refl _ _
                                · exact (fun _ _ => rfl)
                              case o2 =>
                                intro a w hfr hG hd
                                obtain ⟨d0, _⟩ := hd
                                have sg : a.tmps.getD 93 undef = .bool false := (d0 rfl).now
                                refine ⟨fun hw => ?_, fun hw => fun _ _ => trivial⟩
                                rw [wanted_of rfl (yielded_of rfl sg)] at hw; exact absurd hw (by decide)
                              case o3 =>
                                intro a w hfr hG hd
                                obtain ⟨d0, _⟩ := hd
                                have sg : a.tmps.getD 93 undef = .bool false := (d0 rfl).now
                                refine ⟨fun hw => ?_, fun hw => fun _ _ => trivial⟩
                                rw [wanted_of rfl (yielded_of rfl sg)] at hw; exact absurd hw (by decide)
                              case o4 =>
                                intro a w hfr hG hd
                                obtain ⟨d0, d1, d2, _⟩ := hd
                                have sg : a.tmps.getD 93 undef = .bool false := (d2 rfl).now
                                refine ⟨fun hw => ?_, fun hw => fun _ _ => trivial⟩
                                rw [wanted_of rfl (yielded_of rfl sg)] at hw; exact absurd hw (by decide)
                              case o5 =>
                                intro a w hfr hG hd
                                obtain ⟨d0, d1, _⟩ := hd
                                have sg : a.tmps.getD 93 undef = .bool false := (d1 rfl).now
                                refine ⟨fun hw => ?_, fun hw => fun _ _ => trivial⟩
                                rw [wanted_of rfl (yielded_of rfl sg)] at hw; exact absurd hw (by decide)
                              case o6 =>
                                intro a w hfr hG hd
                                obtain ⟨d0, _⟩ := hd
                                have sg : a.tmps.getD 93 undef = .bool false := (d0 rfl).now
                                refine ⟨fun hw => ?_, fun hw => fun _ _ => trivial⟩
                                rw [wanted_of rfl (yielded_of rfl sg)] at hw; exact absurd hw (by decide)
                              case o7 =>
                                intro a w hfr hG hd
                                obtain ⟨d0, d1, d2, d3, _⟩ := hd
                                have sg : a.tmps.getD 93 undef = .bool false := (d2 rfl).now
                                refine ⟨fun hw => ?_, fun hw => fun _ _ => trivial⟩
                                rw [wanted_of rfl (yielded_of rfl sg)] at hw; exact absurd hw (by decide)
                              case o8 =>
                                intro a w hfr hG hd
                                obtain ⟨d0, _⟩ := hd
                                have sg : a.tmps.getD 93 undef = .bool false := (d0 rfl).now
                                refine ⟨fun hw => ?_, fun hw => fun _ _ => trivial⟩
                                rw [wanted_of rfl (yielded_of rfl sg)] at hw; exact absurd hw (by decide)
                              case o9 =>
                                intro a w hfr hG hd
                                obtain ⟨d0, _⟩ := hd
                                have sg : a.tmps.getD 93 undef = .bool false := (d0 rfl).now
                                refine ⟨fun hw => ?_, fun hw => fun _ _ => trivial⟩
                                rw [wanted_of rfl (yielded_of rfl sg)] at hw; exact absurd hw (by decide)
                              case o10 =>
                                intro a w hfr hG hd
                                obtain ⟨d0, d1, d2, _⟩ := hd
                                have sg : a.tmps.getD 93 undef = .bool false := (d2 rfl).now
                                refine ⟨fun hw => ?_, fun hw => fun _ _ => trivial⟩
                                rw [wanted_of rfl (yielded_of rfl sg)] at hw; exact absurd hw (by decide)
                              case o11 =>
                                intro a w hfr hG hd
                                obtain ⟨d0, d1, _⟩ := hd
                                have sg : a.tmps.getD 93 undef = .bool false := (d1 rfl).now
                                refine ⟨fun hw => ?_, fun hw => fun _ _ => trivial⟩
                                rw [wanted_of rfl (yielded_of rfl sg)] at hw; exact absurd hw (by decide)
                              case o12 =>
                                intro a w hfr hG hd
                                obtain ⟨d0, _⟩ := hd
                                have sg : a.tmps.getD 93 undef = .bool false := (d0 rfl).now
                                refine ⟨fun hw => ?_, fun hw => fun _ _ => trivial⟩
                                rw [wanted_of rfl (yielded_of rfl sg)] at hw; exact absurd hw (by decide)
                              case o13 =>
                                intro a w hfr hG hd
                                obtain ⟨d0, d1, d2, d3, _⟩ := hd
                                have sg : a.tmps.getD 93 undef = .bool false := (d3 rfl).now
                                refine ⟨fun hw => ?_, fun hw => fun _ _ => trivial⟩
                                rw [wanted_of rfl (yielded_of rfl sg)] at hw; exact absurd hw (by decide)
                              case o14 =>
                                intro a w hfr hG hd
                                obtain ⟨d0, d1, d2, _⟩ := hd
                                have sg : a.tmps.getD 93 undef = .bool false := (d2 rfl).now
                                refine ⟨fun hw => ?_, fun hw => fun _ _ => trivial⟩
                                rw [wanted_of rfl (yielded_of rfl sg)] at hw; exact absurd hw (by decide)
                              case o15 =>
                                intro a w hfr hG hd
                                obtain ⟨d0, d1, _⟩ := hd
                                refine ⟨fun hw => ?_, fun hw => absurd hw (by simp [Region.wanted])⟩
                                have s93 : a.tmps.getD 93 undef = .bool false := (d0 rfl).now
                                refine op_yields (.bool false) ?_ ?_ ?_
                                · simp only [execOp, resolve, List.map_toArray, List.map_cons, List.map_nil, Act.eval, s93]; simp [go_sem, -Array.getD_eq_getD_getElem?, s93]
                                · exact Below.refl _ _
                                · exact (fun _ _ => rfl)
                              case o16 =>
                                intro a w hfr hG hd
                                obtain ⟨d0, d1, d2, d3, d4, d5, d6, d7, d8, d9, d10, d11, d12, d13, d14, d15, d16, d17, _⟩ := hd
                                refine ⟨fun hw => ?_, fun hw => absurd hw (by simp [Region.wanted])⟩
                                have s107 : a.tmps.getD 107 undef = .bool false := (d0 rfl).now
                                refine op_yields (.bool false) ?_ ?_ ?_
                                · simp only [execOp, resolve, List.map_toArray, List.map_cons, List.map_nil, Act.eval, s107]; simp [go_sem, -Array.getD_eq_getD_getElem?, s107]
                                · exact Below.refl _ _
                                · exact (fun _ _ => rfl)
                              case hG => exact fun w' hb => HTQ.out.drew.below hb
                              case hend =>
                                intro vs w' hG hv
                                have key : vs 15 = .bool false ∧ vs 16 = .bool false := by
                                  obtain ⟨_, _, _, _, _, _, _, _, _, _, _, _, _, _, _, h15, h16, _⟩ := hv
                                  exact ⟨h15.now, h16.now⟩
                                have HT4 := Lib.hid hG.now
                                clear hv hG HTQ H1 H2 e3
                                simp only [putAll, Act.put, key.1, key.2]
                                clear key
                                go_simp
                                go_wp2_with fail
                                go_roundg g3
                                case measure => omega
                                case rel => exact ⟨q + 1, by omega, by go_num, by rw [HN1.out], HT4.out⟩
                            | true =>
                              obtain ⟨eb, heb⟩ : ∃ b, (xo.toList == xl.toList) = b := ⟨_, rfl⟩
                              have t1 := heb
                              have HN1 := Lib.hid (show _ = eb from HX0.out.trans (by
                                rw [Bool.true_and, ← heb]
                                by_cases hx : xo = xl
                                · rw [hx]; simp
                                · rw [decide_eq_false hx]; exact (beq_eq_false_iff_ne.2 (fun h => hx (ba_ext h))).symm))
                              clear HX0 heb
                              refine wp_region_facts (R := fun a b => Below a.heap.size a b) (G := Kept w [fun W => HasL W (.slice Ao o.length co) o, fun W => Blk W bx 29 [.slice As src.length cs, .slice Ad dst.length cd, .slice (some ae) eq.length ce], fun W => HasS W (.slice (some ae) eq.length ce) eq, fun W => HasM W (.slice As src.length cs) src, fun W => HasM W (.slice Ad dst.length cd) dst, fun W => SetsAt W (some ad0) n all, fun W => HasL W (.slice A0 l.length c0) l, fun W => SilsAt W A1 n1 ss, fun W => InhsAt W (some adh) n2 hs]) (V := fun i' u' W => match i' with | 0 => u' = .bool true | 1 => u' = .bool true | 2 => u' = .slice (some ad0) n c | 3 => u' = .int .i64 j | 4 => u' = .pointer (some (ad0.add j)) | 5 => u' = .slice Ao o.length co | 6 => u' = .string nm | 7 => u' = .string xo | 8 => u' = .slice (some ad0) n c | 9 => u' = .int .i64 i | 10 => u' = .pointer (some (ad0.add i)) | 11 => u' = .slice A0 l.length c0 | 12 => u' = .string nm | 13 => u' = .string xl | 14 => u' = .bool eb | 15 => u' = .bool eb | 16 => u' = .bool eb | _ => True) (by kernel_rfl) (fun w => Below.refl _ _) (fun a b c h1 h2 => h1.trans (h2.mono h1.size)) (by kernel_rfl) (by kernel_rfl) ?hG ⟨?o0, ?o1, ?o2, ?o3, ?o4, ?o5, ?o6, ?o7, ?o8, ?o9, ?o10, ?o11, ?o12, ?o13, ?o14, ?o15, ?o16, trivial⟩ ?hend
                              case o0 =>
                                intro a w hfr hG hd
                                refine ⟨fun hw => ?_, fun hw => absurd hw (by simp [Region.wanted])⟩
                                have s16 : a.tmps.getD 16 undef = .bool true := hfr.at 16 (by kernel_rfl)
                                refine op_yields (.bool true) ?_ ?_ ?_
                                · simp only [execOp, resolve, List.map_toArray, List.map_cons, List.map_nil, Act.eval, s16]; simp [go_sem, -Array.getD_eq_getD_getElem?, s16]
                                · exact Below.refl _ _
                                · exact (fun _ _ => rfl)
                              case o1 =>
                                intro a w hfr hG hd
                                obtain ⟨d0, _⟩ := hd
                                refine ⟨fun hw => ?_, fun hw => absurd hw (by simp [Region.wanted])⟩
                                have s92 : a.tmps.getD 92 undef = .bool true := (d0 rfl).now
                                refine op_yields (.bool true) ?_ ?_ ?_
                                · simp only [execOp, resolve, List.map_toArray, List.map_cons, List.map_nil, Act.eval, s92]; simp [go_sem, -Array.getD_eq_getD_getElem?, s92]
                                · exact Below.refl _ _
                                · exact (fun _ _ => rfl)
                              case o2 =>
                                intro a w hfr hG hd
                                obtain ⟨d0, _⟩ := hd
                                have sg : a.tmps.getD 93 undef = .bool true := (d0 rfl).now
                                refine ⟨fun hw => ?_, fun hw => by rw [wanted_of rfl (yielded_of rfl sg)] at hw; exact absurd hw (by decide)⟩
                                have s0 : a.tmps.getD 0 undef = .slice (some ad0) n c := hfr.at 0 (by kernel_rfl)
                                refine op_yields (.slice (some ad0) n c) ?_ ?_ ?_
                                · simp only [execOp, resolve, List.map_toArray, List.map_cons, List.map_nil, Act.eval, s0]; simp [go_sem, -Array.getD_eq_getD_getElem?, s0]
                                · exact Below.refl _ _
                                · exact (fun _ _ => rfl)
                              case o3 =>
                                intro a w hfr hG hd
                                obtain ⟨d0, _⟩ := hd
                                have sg : a.tmps.getD 93 undef = .bool true := (d0 rfl).now
                                refine ⟨fun hw => ?_, fun hw => by rw [wanted_of rfl (yielded_of rfl sg)] at hw; exact absurd hw (by decide)⟩
                                have s15 : a.tmps.getD 15 undef = .int .i64 j := hfr.at 15 (by kernel_rfl)
                                refine op_yields (.int .i64 j) ?_ ?_ ?_
                                · simp only [execOp, resolve, List.map_toArray, List.map_cons, List.map_nil, Act.eval, s15]; simp [go_sem, -Array.getD_eq_getD_getElem?, s15]
                                · exact Below.refl _ _
                                · exact (fun _ _ => rfl)
                              case o4 =>
                                intro a w hfr hG hd
                                obtain ⟨d0, d1, d2, _⟩ := hd
                                have sg : a.tmps.getD 93 undef = .bool true := (d2 rfl).now
                                refine ⟨fun hw => ?_, fun hw => by rw [wanted_of rfl (yielded_of rfl sg)] at hw; exact absurd hw (by decide)⟩
                                have s94 : a.tmps.getD 94 undef = .slice (some ad0) n c := (d0 rfl).now
                                have s95 : a.tmps.getD 95 undef = .int .i64 j := (d1 rfl).now
                                refine op_yields (.pointer (some (ad0.add j))) ?_ ?_ ?_
                                · simp only [execOp, resolve, List.map_toArray, List.map_cons, List.map_nil, Act.eval, s94, s95]; simp [go_sem, -Array.getD_eq_getD_getElem?, s94, s95, z7, z8]
                                · exact Below.refl _ _
                                · exact (fun _ _ => rfl)
                              case o5 =>
                                intro a w hfr hG hd
                                obtain ⟨d0, d1, _⟩ := hd
                                have sg : a.tmps.getD 93 undef = .bool true := (d1 rfl).now
                                refine ⟨fun hw => ?_, fun hw => by rw [wanted_of rfl (yielded_of rfl sg)] at hw; exact absurd hw (by decide)⟩
                                have s96 : a.tmps.getD 96 undef = .pointer (some (ad0.add j)) := (d0 rfl).now
                                have e9 := HCO.out w hG.now.p5
                                refine op_yields (.slice Ao o.length co) ?_ ?_ ?_
                                · simp only [execOp, resolve, List.map_toArray, List.map_cons, List.map_nil, Act.eval, s96]; simp [go_sem, -Array.getD_eq_getD_getElem?, s96, e9, e9]
                                · exact Below.refl _ _
                                · exact (fun _ _ => rfl)
                              case o6 =>
                                intro a w hfr hG hd
                                obtain ⟨d0, _⟩ := hd
                                have sg : a.tmps.getD 93 undef = .bool true := (d0 rfl).now
                                refine ⟨fun hw => ?_, fun hw => by rw [wanted_of rfl (yielded_of rfl sg)] at hw; exact absurd hw (by decide)⟩
                                have s18 : a.tmps.getD 18 undef = .string nm := hfr.at 18 (by kernel_rfl)
                                refine op_yields (.string nm) ?_ ?_ ?_
                                · simp only [execOp, resolve, List.map_toArray, List.map_cons, List.map_nil, Act.eval, s18]; simp [go_sem, -Array.getD_eq_getD_getElem?, s18]
                                · exact Below.refl _ _
                                · exact (fun _ _ => rfl)
                              case o7 =>
                                intro a w hfr hG hd
                                obtain ⟨d0, d1, d2, d3, _⟩ := hd
                                have sg : a.tmps.getD 93 undef = .bool true := (d2 rfl).now
                                refine ⟨fun hw => ?_, fun hw => by rw [wanted_of rfl (yielded_of rfl sg)] at hw; exact absurd hw (by decide)⟩
                                have s97 : a.tmps.getD 97 undef = .slice Ao o.length co := (d0 rfl).now
                                have s98 : a.tmps.getD 98 undef = .string nm := (d1 rfl).now
                                refine op_calls2 ((H1.out w hG.now).mono fun e' w' hh => ⟨_, hh.1, hh.2, (fun _ _ => rfl)⟩) ?_
                                simp only [execOp, resolve, List.map_toArray, List.map_cons, List.map_nil, Act.eval, s97, s98]; simp [go_sem, -Array.getD_eq_getD_getElem?, s97, s98]
                              case o8 =>
                                intro a w hfr hG hd
                                obtain ⟨d0, _⟩ := hd
                                have sg : a.tmps.getD 93 undef = .bool true := (d0 rfl).now
                                refine ⟨fun hw => ?_, fun hw => by rw [wanted_of rfl (yielded_of rfl sg)] at hw; exact absurd hw (by decide)⟩
                                have s0 : a.tmps.getD 0 undef = .slice (some ad0) n c := hfr.at 0 (by kernel_rfl)
                                refine op_yields (.slice (some ad0) n c) ?_ ?_ ?_
                                · simp only [execOp, resolve, List.map_toArray, List.map_cons, List.map_nil, Act.eval, s0]; simp [go_sem, -Array.getD_eq_getD_getElem?, s0]
                                · exact Below.refl _ _
                                · exact (fun _ _ => rfl)
                              case o9 =>
                                intro a w hfr hG hd
                                obtain ⟨d0, _⟩ := hd
                                have sg : a.tmps.getD 93 undef = .bool true := (d0 rfl).now
                                refine ⟨fun hw => ?_, fun hw => by rw [wanted_of rfl (yielded_of rfl sg)] at hw; exact absurd hw (by decide)⟩
                                have s1 : a.tmps.getD 1 undef = .int .i64 i := hfr.at 1 (by kernel_rfl)
                                refine op_yields (.int .i64 i) ?_ ?_ ?_
                                · simp only [execOp, resolve, List.map_toArray, List.map_cons, List.map_nil, Act.eval, s1]; simp [go_sem, -Array.getD_eq_getD_getElem?, s1]
                                · exact Below.refl _ _
                                · exact (fun _ _ => rfl)
                              case o10 =>
                                intro a w hfr hG hd
                                obtain ⟨d0, d1, d2, _⟩ := hd
                                have sg : a.tmps.getD 93 undef = .bool true := (d2 rfl).now
                                refine ⟨fun hw => ?_, fun hw => by rw [wanted_of rfl (yielded_of rfl sg)] at hw; exact absurd hw (by decide)⟩
                                have s100 : a.tmps.getD 100 undef = .slice (some ad0) n c := (d0 rfl).now
                                have s101 : a.tmps.getD 101 undef = .int .i64 i := (d1 rfl).now
                                refine op_yields (.pointer (some (ad0.add i))) ?_ ?_ ?_
                                · simp only [execOp, resolve, List.map_toArray, List.map_cons, List.map_nil, Act.eval, s100, s101]; simp [go_sem, -Array.getD_eq_getD_getElem?, s100, s101, z2, z3]
                                · exact Below.refl _ _
                                · exact (fun _ _ => rfl)
                              case o11 =>
                                intro a w hfr hG hd
                                obtain ⟨d0, d1, _⟩ := hd
                                have sg : a.tmps.getD 93 undef = .bool true := (d1 rfl).now
                                refine ⟨fun hw => ?_, fun hw => by rw [wanted_of rfl (yielded_of rfl sg)] at hw; exact absurd hw (by decide)⟩
                                have s102 : a.tmps.getD 102 undef = .pointer (some (ad0.add i)) := (d0 rfl).now
                                have e9 := HCL.out w hG.now.p5
                                refine op_yields (.slice A0 l.length c0) ?_ ?_ ?_
                                · simp only [execOp, resolve, List.map_toArray, List.map_cons, List.map_nil, Act.eval, s102]; simp [go_sem, -Array.getD_eq_getD_getElem?, s102, e9, e9]
                                · exact Below.refl _ _
                                · exact (fun _ _ => rfl)
                              case o12 =>
                                intro a w hfr hG hd
                                obtain ⟨d0, _⟩ := hd
                                have sg : a.tmps.getD 93 undef = .bool true := (d0 rfl).now
                                refine ⟨fun hw => ?_, fun hw => by rw [wanted_of rfl (yielded_of rfl sg)] at hw; exact absurd hw (by decide)⟩
                                have s18 : a.tmps.getD 18 undef = .string nm := hfr.at 18 (by kernel_rfl)
                                refine op_yields (.string nm) ?_ ?_ ?_
                                · simp only [execOp, resolve, List.map_toArray, List.map_cons, List.map_nil, Act.eval, s18]; simp [go_sem, -Array.getD_eq_getD_getElem?, s18]
                                · exact Below.refl _ _
                                · exact (fun _ _ => rfl)
                              case o13 =>
                                intro a w hfr hG hd
                                obtain ⟨d0, d1, d2, d3, _⟩ := hd
                                have sg : a.tmps.getD 93 undef = .bool true := (d3 rfl).now
                                refine ⟨fun hw => ?_, fun hw => by rw [wanted_of rfl (yielded_of rfl sg)] at hw; exact absurd hw (by decide)⟩
                                have s103 : a.tmps.getD 103 undef = .slice A0 l.length c0 := (d0 rfl).now
                                have s104 : a.tmps.getD 104 undef = .string nm := (d1 rfl).now
                                refine op_calls2 ((H2.out w hG.now).mono fun e' w' hh => ⟨_, hh.1, hh.2, (fun _ _ => rfl)⟩) ?_
                                simp only [execOp, resolve, List.map_toArray, List.map_cons, List.map_nil, Act.eval, s103, s104]; simp [go_sem, -Array.getD_eq_getD_getElem?, s103, s104]
                              case o14 =>
                                intro a w hfr hG hd
                                obtain ⟨d0, d1, d2, _⟩ := hd
                                have sg : a.tmps.getD 93 undef = .bool true := (d2 rfl).now
                                refine ⟨fun hw => ?_, fun hw => by rw [wanted_of rfl (yielded_of rfl sg)] at hw; exact absurd hw (by decide)⟩
                                have s99 : a.tmps.getD 99 undef = .string xo := (d0 rfl).now
                                have s105 : a.tmps.getD 105 undef = .string xl := (d1 rfl).now
                                refine op_yields (.bool eb) ?_ ?_ ?_
                                · simp only [execOp, resolve, List.map_toArray, List.map_cons, List.map_nil, Act.eval, s99, s105]; simp [go_sem, -Array.getD_eq_getD_getElem?, s99, s105, t1]
                                · exact Below.refl _ _
                                · exact (fun _ _ => rfl)
                              case o15 =>
                                intro a w hfr hG hd
                                obtain ⟨d0, d1, _⟩ := hd
                                refine ⟨fun hw => ?_, fun hw => absurd hw (by simp [Region.wanted])⟩
                                have s93 : a.tmps.getD 93 undef = .bool true := (d0 rfl).now
                                have s106 : a.tmps.getD 106 undef = .bool eb := (d1 rfl).now
                                refine op_yields (.bool eb) ?_ ?_ ?_
                                · simp only [execOp, resolve, List.map_toArray, List.map_cons, List.map_nil, Act.eval, s93, s106]; simp [go_sem, -Array.getD_eq_getD_getElem?, s93, s106]
                                · exact Below.refl _ _
                                · exact (fun _ _ => rfl)
                              case o16 =>
                                intro a w hfr hG hd
                                obtain ⟨d0, d1, d2, d3, d4, d5, d6, d7, d8, d9, d10, d11, d12, d13, d14, d15, d16, d17, _⟩ := hd
                                refine ⟨fun hw => ?_, fun hw => absurd hw (by simp [Region.wanted])⟩
                                have s107 : a.tmps.getD 107 undef = .bool eb := (d0 rfl).now
                                refine op_yields (.bool eb) ?_ ?_ ?_
                                · simp only [execOp, resolve, List.map_toArray, List.map_cons, List.map_nil, Act.eval, s107]; simp [go_sem, -Array.getD_eq_getD_getElem?, s107]
                                · exact Below.refl _ _
                                · exact (fun _ _ => rfl)
                              case hG => exact fun w' hb => HTQ.out.drew.below hb
                              case hend =>
                                intro vs w' hG hv
                                have key : vs 15 = .bool eb ∧ vs 16 = .bool eb := by
                                  obtain ⟨_, _, _, _, _, _, _, _, _, _, _, _, _, _, _, h15, h16, _⟩ := hv
                                  exact ⟨h15.now, h16.now⟩
                                have HT4 := Lib.hid hG.now
                                clear hv hG HTQ H1 H2 e3 t1
                                simp only [putAll, Act.put, key.1, key.2]
                                clear key
                                go_simp
                                go_wp2_with fail
                                go_roundg g3
                                case measure => omega
                                case rel => exact ⟨q + 1, by omega, by go_num, by rw [HN1.out], HT4.out⟩
end Go.Proofs.Ytfcjalojgmpnoaa
