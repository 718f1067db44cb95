/- klaxonref7.Sorted. -/
import Derived.Test.YtbndmmfpoljeaaaRef7c
import Derived.Test.YtbndmmfpoljeaaaBase2
import Derived.Deep.RegionLaw
import Derived.Deep.CutBlock
import Derived.Deep.DeepCutAuto
import Derived.BigQuiet
namespace Go.Proofs.Ytbndmmfpoljeaaa
open Go.ChangeShapes Go.WideShapes Go.ChangeAt Go.RowKit
set_option linter.unusedVariables false
set_option linter.unusedSimpArgs false
set_option maxRecDepth 100000
/-- Where Sorted stands: its out, the point at hand. -/
structure SoAt (w0 : World) (v : Value) (R : List PtR) (bb : Nat) (p : PtR) (W : World) : Prop where
  own : PtsAt w0.heap.size v R W
  box : Blk W bb 28 [p.sv, .int .i64 p.val]
  pl : OwnL W p.sv p.set
  bel : Below w0.heap.size w0 W
theorem SoAt.below {w0 W W' : World} {v : Value} {R : List PtR} {bb : Nat} {p : PtR} (h : SoAt w0 v R bb p W) (hb : Below W.heap.size W W') : SoAt w0 v R bb p W' := ⟨h.own.below hb, h.box.below hb h.box.lt, h.pl.below hb, h.bel.trans (hb.mono h.bel.size)⟩
theorem sortR_mem {l : List PtR} {p : PtR} : p ∈ sortR l ↔ p ∈ l := sortK_mem _ l p
theorem sortR_len (l : List PtR) : (sortR l).length = l.length := sortK_length _ l
theorem pr_call {W : World} {v : Value} {l : List Lbl} (h : HasL W v l) (hl : l.length ≤ 1000) (hr : ∀ x ∈ l, x.1.size ≤ 9223372036854775807) : Calls Try.prog 52 #[v] W fun e w' => e = .returned (.string ⟨(printL l).toArray⟩) ∧ Below W.heap.size W w' := by
  obtain ⟨A, c, rfl, hs, h3, h4⟩ := h
  exact rprint_any A _ c l W.heap.size W hs (Nat.le_refl _) (by omega) hr
theorem pts_take (l : List PtR) (k : Nat) : (pts l).take (k * 2) = pts (l.take k) := by
  induction l generalizing k with
  | nil => simp [pts]
  | cons x l ih =>
    cases k with
    | zero => simp [pts]
    | succ k =>
      rw [show (k + 1) * 2 = k * 2 + 1 + 1 by omega]
      have e : pts (x :: l) = x.sv :: .int .i64 x.val :: pts l := rfl
      rw [e, List.take_succ_cons, List.take_succ_cons, ih k]; rfl
theorem pts_drop (l : List PtR) (k : Nat) : (pts l).drop (k * 2) = pts (l.drop k) := by
  induction l generalizing k with
  | nil => simp [pts]
  | cons x l ih =>
    cases k with
    | zero => simp [pts]
    | succ k =>
      rw [show (k + 1) * 2 = k * 2 + 2 by omega]
      have e : pts (x :: l) = x.sv :: .int .i64 x.val :: pts l := rfl
      rw [e, List.drop_succ_cons, List.drop_succ_cons, ih k]; rfl
theorem step_append_own2 {P : Program} {w : World} {ops : Array Oper} {o : Oper} {a : Act} {K : Act → World → Prop} {Q : Exit → Act → World → Prop} {E : Prop} (hgd : o.guard = none) (s x : Operand) (t : TypeId)
    (ho : o.op = .call { callee := .builtin .append, args := #[s, x], argTypes := #[t, t] })
    (base : Nat) (e : TypeId) (i : TypeInfo) (z : Value) (size bytes : Nat) (ht : P.underlying t = some (.slice e)) (hi : P.info? e = some i) (hz : i.zero = some z)
    (hsize : i.size = size) (hby : i.bytes = bytes) (hzs : z.cells.size = size) (hsz : 0 < size)
    (v : Value) (n : Nat) (xs : List Value) (hv : a.eval s = v) (hown : w.ownsRow base e size v n xs)
    (B : Nat) (A : Option Addr) (m c : Nat) (news : List Value) (hx : a.eval x = .slice A m c) (hs : Sees w B size A m news) (h1 : ∀ u ∈ news, u.oneCell' = true)
    (h63 : n + m ≤ maxLen) (hbytes : (n + m) * bytes ≤ 140737488355328) (hbase : base ≤ w.heap.size)
    (h : ∀ A' c' w', w'.ownsRow base e size (.slice A' (n + m) c') (n + m) (xs ++ news) → w.grownBy w' v.ownBlock → K (a.put o.dst (.slice A' (n + m) c')) w') :
    if Region.wanted o (yielded ops a.tmps) = true then Oper.wp P o a w K Q else E := by
  have hw : Region.wanted o (yielded ops a.tmps) = true := by simp [Region.wanted, hgd]
  rw [if_pos hw]
  obtain ⟨v', w', hr, h2, h3⟩ := append_run (P := P) w base t o.type e i z size bytes ht hi hz hsize hby hzs hsz v n xs hown B A m c news hs h1 h63 hbytes hbase
  obtain ⟨A', c', rfl, _, _⟩ := own_slice h2
  unfold Oper.wp execOp
  simp only [ho, resolve, invoke, builtin, Sem.run_bind, Sem.run_pure, Result.andThen_ok, List.map_toArray, List.map_cons, List.map_nil, hv, hx, hr]
  exact h A' c' w' h2 h3
def SoPre (R : List PtR) (t : List UInt8) (j : Nat) : Prop := ∀ q, q < j → ∀ y, R[q]? = some y → Op.bytesLess t (printL y.set) = false
def SoStop (R : List PtR) (t : List UInt8) (j : Nat) : Prop := SoPre R t j ∧ ∀ y, R[j]? = some y → Op.bytesLess t (printL y.set) = true
set_option maxHeartbeats 8000000 in
theorem sorted_r (base : Nat) (A : Option Addr) (n c : Nat) (rows : List PtR) (w0 : World) (h : PtsAt base (.slice A n c) rows w0) (hn : rows.length = n) (hB : n ≤ 1000) (hs : SetsOk rows) :
    Calls Try.prog 24 #[.slice A n c] w0 (PtsAns (sortP (ptsOf rows)) w0) := by
  obtain ⟨i0, hi, hz0, hz1, hz2⟩ := info_parts Try.infoPt
  have HI := Lib.hid hi; have HZ0 := Lib.hid hz0; have HZ1 := Lib.hid hz1; have HZ2 := Lib.hid hz2
  clear hi hz0 hz1 hz2
  have H := Lib.hid (fun (V : World) (hV : Below w0.heap.size w0 V) => h.below hV)
  have HS := Lib.hid hs; have HN := Lib.hid hn
  clear h hs hn
  go_enter Try.func24, Try.ntmps24
  go_wp2_with fail
  go_loopg [9, 3] n (fun g x9 x3 wr => ∃ (k : Nat) (X : Option Addr) (cx : Nat), k + g = n ∧ x9 = .int .i64 k ∧ x3 = .slice X k cx ∧ PtsAt w0.heap.size (.slice X k cx) (sortR (rows.take k)) wr ∧ Below w0.heap.size w0 wr)
  case atStart => exact ⟨0, none, 0, by omega, rfl, rfl, PtsAt.nil _ _, Below.refl _ _⟩
  case round =>
    obtain ⟨k, X, cx, hkg, rfl, rfl, hpt, hbel⟩ := hrel
    have HP := Lib.hid hpt; have HB := Lib.hid hbel; have HKG := Lib.hid hkg
    clear hpt hbel
    cases gk with
    | zero =>
      obtain rfl : k = n := by omega
      have HE : Hid (rows.take k = rows) := Lib.hid (List.take_of_length_le (by rw [HN.out]; exact Nat.le_refl _))
      have HL : Hid ((sortR rows).length = k) := Lib.hid (by rw [sortR_len, HN.out])
      have HP2 := Lib.hid (show PtsAt w0.heap.size (.slice X k cx) (sortR rows) wr by have h := HP.out; rwa [HE.out] at h)
      obtain ⟨A', c', h1, h2, h3⟩ := own_slice HP2.out.own
      injection h1 with h1 h4 h5; subst h5
      clear h1 h4
      have H2 := Lib.hid h2
      clear h2
      go_wp2_with fail
      go_ret
      exact ⟨X, cx, sortR rows, ptsOf_sortR rows, by rw [HL.out]; rfl, by rw [HL.out]; exact HP2.out, HB.out, H2.out, h3⟩
    | succ g =>
      have hlt : k < rows.length := by rw [HN.out]; omega
      have HNX := Lib.hid (sortK_next (fun q : PtR => printL q.set) rows hlt)
      have HMP : Hid (rows[k] ∈ rows) := Lib.hid (List.getElem_mem hlt)
      obtain ⟨⟨sv, st, vl⟩, hp⟩ : ∃ p, p = rows[k] := ⟨_, rfl⟩
      have hpo := (H.out wr HB.out).each _ HMP.out
      obtain ⟨ad, rfl, c0, c1, hhl⟩ := (H.out wr HB.out).get2 hlt
      rw [← hp] at HNX HMP hpo c0 c1 hhl
      simp only at hpo c0 c1 hhl
      obtain ⟨hpl, hpx⟩ := HS.out _ HMP.out
      simp only at hpl hpx
      have HH := Lib.hid hpo
      obtain ⟨SA, sc, rfl, hse⟩ := hhl
      clear hse
      have hkn : k < n := by omega
      have hal := World.block_lt_of_cell? wr _ c0
      have hb2 := (Below.refl wr.heap.size wr).alloc (Nat.le_refl _) (.cells #[(.slice SA st.length sc), .int .i64 vl] 28)
      have HSO := Lib.hid (SoAt.mk (p := ⟨.slice SA st.length sc, st, vl⟩) (HP.out.below hb2) (Blk.mk (heap_alloc_new wr (.cells #[.slice SA st.length sc, .int .i64 vl] 28))) (HH.out.below hb2) (HB.out.trans (hb2.mono HB.out.size)))
      have HPC := Lib.hid (fun (V : World) (hV : HasL V (.slice SA st.length sc) st) => pr_call hV hpl hpx)
      clear hp hpl hpx hpo hb2 hlt HP HB HMP
      generalize st.length = sn at *
      have HSL : Hid ((sortR (rows.take k)).length = k) := Lib.hid (by rw [sortR_len, List.length_take, HN.out]; omega)
      have HSS : Hid (SetsOk (sortR (rows.take k))) := Lib.hid (fun q hq => HS.out q (List.mem_of_mem_take (sortR_mem.1 hq)))
      go_upto_block 2 with fail
      generalize wr.heap.size = b5 at *
      go_cut [6] from 13 to 30 (fun x6 wx => ∃ j : Nat, x6 = .int .i64 j ∧ j ≤ k ∧ SoStop (sortR (rows.take k)) (printL st) j ∧ SoAt w0 (.slice X k cx) (sortR (rows.take k)) b5 ⟨.slice SA sn sc, st, vl⟩ wx)
      case first =>
        go_wp2_with fail
        go_loopg [6] k (fun g x6 wq => ∃ j : Nat, j + g = k ∧ x6 = .int .i64 j ∧ SoPre (sortR (rows.take k)) (printL st) j ∧ SoAt w0 (.slice X k cx) (sortR (rows.take k)) b5 ⟨.slice SA sn sc, st, vl⟩ wq)
        case atStart => exact ⟨0, by omega, rfl, fun q hq => absurd hq (Nat.not_lt_zero _), HSO.out⟩
        case round =>
          obtain ⟨j, hjg, rfl, hpre, hso⟩ := hrel
          have HPR := Lib.hid hpre; have HJG := Lib.hid hjg; have HQ := Lib.hid hso
          clear hpre hso HSO
          cases gk with
          | zero =>
            obtain rfl : j = k := by omega
            have hjn : ¬ (j : Int) < j := by omega
            go_upto_region 6 with fail
            go_quiet (fail)
            go_wp2_with fail
            go_meet
            exact ⟨j, rfl, Nat.le_refl _, ⟨HPR.out, fun y hy => by rw [List.getElem?_eq_none (by rw [HSL.out]; exact Nat.le_refl _)] at hy; cases hy⟩, HQ.out.below (below_drewN2 (Below.refl _ _) _)⟩
          | succ g2 =>
            have hjr : j < (sortR (rows.take k)).length := by rw [HSL.out]; omega
            obtain ⟨y, hy⟩ : ∃ y, (sortR (rows.take k))[j]? = some y := ⟨_, List.getElem?_eq_getElem hjr⟩
            have HY := Lib.hid hy
            obtain ⟨hyl, hyx⟩ := HSS.out y (List.mem_of_getElem? hy)
            have HPY := Lib.hid (fun (V : World) (hV : HasL V y.sv y.set) => pr_call hV hyl hyx)
            obtain ⟨ad2, hX, hu1⟩ := HQ.out.own.get2 hjr
            clear hu1
            subst hX
            have HCY := Lib.hid (fun (V : World) (hV : SoAt w0 (.slice (some ad2) k cx) (sortR (rows.take k)) b5 ⟨.slice SA sn sc, st, vl⟩ V) => show V.cell? (ad2.add (j * 2)) = some y.sv ∧ HasL V y.sv y.set from by
              obtain ⟨hi, rfl⟩ := List.getElem?_eq_some_iff.1 HY.out
              obtain ⟨ad3, e, q0, _, q2⟩ := hV.own.get2 hi
              injection e with e; subst e
              exact ⟨q0, q2⟩)
            obtain ⟨fb, hfb⟩ : ∃ b, Op.bytesLess (printL st) (printL y.set) = b := ⟨_, rfl⟩
            have HFB := Lib.hid hfb
            have hfb2 := (less_flip (printL y.set) (printL st)).trans (congrArg not hfb)
            have hjk : j < k := by omega
            have hjk2 : (j : Int) < k := by omega
            have hjb : ¬ k ≤ j := by omega
            clear hy hyl hyx hjr c0 c1
            go_upto_region 6 with fail
            refine wp_region_facts (R := fun a b => Below a.heap.size a b) (G := (fun W => SoAt w0 (.slice (some ad2) k cx) (sortR (rows.take k)) b5 ⟨.slice SA sn sc, st, vl⟩ W)) (V := fun i' u' W => match i' with | 0 => u' = .int .i64 j | 1 => u' = .slice (some ad2) k cx | 2 => u' = .int .i64 k | 3 => u' = .bool true | 4 => u' = .bool true | 5 => u' = .slice (some ad2) k cx | 6 => u' = .int .i64 j | 7 => u' = .pointer (some (ad2.add (j * 2))) | 8 => u' = .pointer (some (ad2.add (j * 2))) | 9 => u' = y.sv | 10 => u' = .string ⟨(printL y.set).toArray⟩ | 11 => u' = .pointer (some ⟨b5, 0, none⟩) | 12 => u' = .slice SA sn sc | 13 => u' = .string ⟨(printL st).toArray⟩ | 14 => u' = .bool (!fb) | 15 => u' = .bool (!fb) | _ => True) (by kernel_rfl) (fun w => Below.refl _ _) (fun a b c h1 h2 => h1.trans (h2.mono h1.size)) (by kernel_rfl) (by kernel_rfl) ?hG ⟨?o0, ?o1, ?o2, ?o3, ?o4, ?o5, ?o6, ?o7, ?o8, ?o9, ?o10, ?o11, ?o12, ?o13, ?o14, ?o15, trivial⟩ ?hend
            case o0 =>
              intro a w hfr hG hd
              refine ⟨fun hw => ?_, fun hw => absurd hw (by simp [Region.wanted])⟩
              have s6 : a.tmps.getD 6 undef = .int .i64 j := hfr.at 6 (by kernel_rfl)
              refine op_yields (.int .i64 j) ?_ ?_ ?_
              · simp only [execOp, resolve, List.map_toArray, List.map_cons, List.map_nil, Act.eval, s6]; simp [go_sem, -Array.getD_eq_getD_getElem?, s6]
              · exact Below.refl _ _
              · exact (fun _ _ => rfl)
            case o1 =>
              intro a w hfr hG hd
              refine ⟨fun hw => ?_, fun hw => absurd hw (by simp [Region.wanted])⟩
              have s3 : a.tmps.getD 3 undef = .slice (some ad2) k cx := hfr.at 3 (by kernel_rfl)
              refine op_yields (.slice (some ad2) k cx) ?_ ?_ ?_
              · simp only [execOp, resolve, List.map_toArray, List.map_cons, List.map_nil, Act.eval, s3]; simp [go_sem, -Array.getD_eq_getD_getElem?, s3]
              · exact Below.refl _ _
              · exact (fun _ _ => rfl)
            case o2 =>
              intro a w hfr hG hd
              obtain ⟨d0, _⟩ := hd
              refine ⟨fun hw => ?_, fun hw => absurd hw (by simp [Region.wanted])⟩
              have s14 : a.tmps.getD 14 undef = .slice (some ad2) k cx := (d0 rfl).now
              refine op_yields (.int .i64 k) ?_ ?_ ?_
              · simp only [execOp, resolve, List.map_toArray, List.map_cons, List.map_nil, Act.eval, s14]; simp [go_sem, -Array.getD_eq_getD_getElem?, s14]
              · exact Below.refl _ _
              · exact (fun _ _ => rfl)
            case o3 =>
              intro a w hfr hG hd
              obtain ⟨d0, d1, _⟩ := hd
              refine ⟨fun hw => ?_, fun hw => absurd hw (by simp [Region.wanted])⟩
              have s13 : a.tmps.getD 13 undef = .int .i64 j := (d0 rfl).now
              have s15 : a.tmps.getD 15 undef = .int .i64 k := (d1 rfl).now
              refine op_yields (.bool true) ?_ ?_ ?_
              · simp only [execOp, resolve, List.map_toArray, List.map_cons, List.map_nil, Act.eval, s13, s15]; simp [go_sem, -Array.getD_eq_getD_getElem?, s13, s15, hjk, hjk2]
              · exact Below.refl _ _
              · exact (fun _ _ => rfl)
            case o4 =>
              intro a w hfr hG hd
              obtain ⟨d0, _⟩ := hd
              refine ⟨fun hw => ?_, fun hw => absurd hw (by simp [Region.wanted])⟩
              have s16 : a.tmps.getD 16 undef = .bool true := (d0 rfl).now
              refine op_yields (.bool true) ?_ ?_ ?_
              · simp only [execOp, resolve, List.map_toArray, List.map_cons, List.map_nil, Act.eval, s16]; simp [go_sem, -Array.getD_eq_getD_getElem?, s16]
              · exact Below.refl _ _
              · exact (fun _ _ => rfl)
            case o5 =>
              intro a w hfr hG hd
              obtain ⟨d0, _⟩ := hd
              have sg : a.tmps.getD 17 undef = .bool true := (d0 rfl).now
              refine ⟨fun hw => ?_, fun hw => by rw [wanted_of rfl (yielded_of rfl sg)] at hw; exact absurd hw (by decide)⟩
              have s3 : a.tmps.getD 3 undef = .slice (some ad2) k cx := hfr.at 3 (by kernel_rfl)
              refine op_yields (.slice (some ad2) k cx) ?_ ?_ ?_
              · simp only [execOp, resolve, List.map_toArray, List.map_cons, List.map_nil, Act.eval, s3]; simp [go_sem, -Array.getD_eq_getD_getElem?, s3]
              · exact Below.refl _ _
              · exact (fun _ _ => rfl)
            case o6 =>
              intro a w hfr hG hd
              obtain ⟨d0, _⟩ := hd
              have sg : a.tmps.getD 17 undef = .bool true := (d0 rfl).now
              refine ⟨fun hw => ?_, fun hw => by rw [wanted_of rfl (yielded_of rfl sg)] at hw; exact absurd hw (by decide)⟩
              have s6 : a.tmps.getD 6 undef = .int .i64 j := hfr.at 6 (by kernel_rfl)
              refine op_yields (.int .i64 j) ?_ ?_ ?_
              · simp only [execOp, resolve, List.map_toArray, List.map_cons, List.map_nil, Act.eval, s6]; simp [go_sem, -Array.getD_eq_getD_getElem?, s6]
              · exact Below.refl _ _
              · exact (fun _ _ => rfl)
            case o7 =>
              intro a w hfr hG hd
              obtain ⟨d0, d1, d2, _⟩ := hd
              have sg : a.tmps.getD 17 undef = .bool true := (d2 rfl).now
              refine ⟨fun hw => ?_, fun hw => by rw [wanted_of rfl (yielded_of rfl sg)] at hw; exact absurd hw (by decide)⟩
              have s18 : a.tmps.getD 18 undef = .slice (some ad2) k cx := (d0 rfl).now
              have s19 : a.tmps.getD 19 undef = .int .i64 j := (d1 rfl).now
              refine op_yields (.pointer (some (ad2.add (j * 2)))) ?_ ?_ ?_
              · simp only [execOp, resolve, List.map_toArray, List.map_cons, List.map_nil, Act.eval, s18, s19]; simp [go_sem, -Array.getD_eq_getD_getElem?, s18, s19, hjb]
              · exact Below.refl _ _
              · exact (fun _ _ => rfl)
            case o8 =>
              intro a w hfr hG hd
              obtain ⟨d0, d1, _⟩ := hd
              have sg : a.tmps.getD 17 undef = .bool true := (d1 rfl).now
              refine ⟨fun hw => ?_, fun hw => by rw [wanted_of rfl (yielded_of rfl sg)] at hw; exact absurd hw (by decide)⟩
              have s20 : a.tmps.getD 20 undef = .pointer (some (ad2.add (j * 2))) := (d0 rfl).now
              refine op_yields (.pointer (some (ad2.add (j * 2)))) ?_ ?_ ?_
              · simp only [execOp, resolve, List.map_toArray, List.map_cons, List.map_nil, Act.eval, s20]; simp [go_sem, -Array.getD_eq_getD_getElem?, s20]
              · exact Below.refl _ _
              · exact (fun _ _ => rfl)
            case o9 =>
              intro a w hfr hG hd
              obtain ⟨d0, d1, _⟩ := hd
              have sg : a.tmps.getD 17 undef = .bool true := (d1 rfl).now
              refine ⟨fun hw => ?_, fun hw => by rw [wanted_of rfl (yielded_of rfl sg)] at hw; exact absurd hw (by decide)⟩
              have s21 : a.tmps.getD 21 undef = .pointer (some (ad2.add (j * 2))) := (d0 rfl).now
              obtain ⟨z0, z1⟩ := HCY.out w hG.now
              refine op_yields (y.sv) ?_ ?_ ?_
              · simp only [execOp, resolve, List.map_toArray, List.map_cons, List.map_nil, Act.eval, s21]; simp [go_sem, -Array.getD_eq_getD_getElem?, s21, z0]
              · exact Below.refl _ _
              · exact (fun _ _ => rfl)
            case o10 =>
              intro a w hfr hG hd
              obtain ⟨d0, d1, d2, _⟩ := hd
              have sg : a.tmps.getD 17 undef = .bool true := (d1 rfl).now
              refine ⟨fun hw => ?_, fun hw => by rw [wanted_of rfl (yielded_of rfl sg)] at hw; exact absurd hw (by decide)⟩
              have s22 : a.tmps.getD 22 undef = y.sv := (d0 rfl).now
              refine op_calls2 ((HPY.out w (HCY.out w hG.now).2).mono fun e' w' hh => ⟨_, hh.1, hh.2, (fun _ _ => rfl)⟩) ?_
              simp only [execOp, resolve, List.map_toArray, List.map_cons, List.map_nil, Act.eval, s22]; simp [go_sem, -Array.getD_eq_getD_getElem?, s22]
            case o11 =>
              intro a w hfr hG hd
              obtain ⟨d0, _⟩ := hd
              have sg : a.tmps.getD 17 undef = .bool true := (d0 rfl).now
              refine ⟨fun hw => ?_, fun hw => by rw [wanted_of rfl (yielded_of rfl sg)] at hw; exact absurd hw (by decide)⟩
              have s5 : a.tmps.getD 5 undef = .pointer (some ⟨b5, 0, none⟩) := hfr.at 5 (by kernel_rfl)
              refine op_yields (.pointer (some ⟨b5, 0, none⟩)) ?_ ?_ ?_
              · simp only [execOp, resolve, List.map_toArray, List.map_cons, List.map_nil, Act.eval, s5]; simp [go_sem, -Array.getD_eq_getD_getElem?, s5]
              · exact Below.refl _ _
              · exact (fun _ _ => rfl)
            case o12 =>
              intro a w hfr hG hd
              obtain ⟨d0, d1, _⟩ := hd
              have sg : a.tmps.getD 17 undef = .bool true := (d1 rfl).now
              refine ⟨fun hw => ?_, fun hw => by rw [wanted_of rfl (yielded_of rfl sg)] at hw; exact absurd hw (by decide)⟩
              have s24 : a.tmps.getD 24 undef = .pointer (some ⟨b5, 0, none⟩) := (d0 rfl).now
              have z0 := hG.now.box.cell 0; simp only [List.getElem?_cons_zero] at z0
              refine op_yields (.slice SA sn sc) ?_ ?_ ?_
              · simp only [execOp, resolve, List.map_toArray, List.map_cons, List.map_nil, Act.eval, s24]; simp [go_sem, -Array.getD_eq_getD_getElem?, s24, z0]
              · exact Below.refl _ _
              · exact (fun _ _ => rfl)
            case o13 =>
              intro a w hfr hG hd
              obtain ⟨d0, d1, d2, _⟩ := hd
              have sg : a.tmps.getD 17 undef = .bool true := (d2 rfl).now
              refine ⟨fun hw => ?_, fun hw => by rw [wanted_of rfl (yielded_of rfl sg)] at hw; exact absurd hw (by decide)⟩
              have s25 : a.tmps.getD 25 undef = .slice SA sn sc := (d0 rfl).now
              refine op_calls2 ((HPC.out w hG.now.pl.hasL).mono fun e' w' hh => ⟨_, hh.1, hh.2, (fun _ _ => rfl)⟩) ?_
              simp only [execOp, resolve, List.map_toArray, List.map_cons, List.map_nil, Act.eval, s25]; simp [go_sem, -Array.getD_eq_getD_getElem?, s25]
            case o14 =>
              intro a w hfr hG hd
              obtain ⟨d0, d1, d2, _⟩ := hd
              have sg : a.tmps.getD 17 undef = .bool true := (d2 rfl).now
              refine ⟨fun hw => ?_, fun hw => by rw [wanted_of rfl (yielded_of rfl sg)] at hw; exact absurd hw (by decide)⟩
              have s23 : a.tmps.getD 23 undef = .string ⟨(printL y.set).toArray⟩ := (d0 rfl).now
              have s26 : a.tmps.getD 26 undef = .string ⟨(printL st).toArray⟩ := (d1 rfl).now
              refine op_yields (.bool (!fb)) ?_ ?_ ?_
              · simp only [execOp, resolve, List.map_toArray, List.map_cons, List.map_nil, Act.eval, s23, s26]; simp [go_sem, -Array.getD_eq_getD_getElem?, s23, s26, hfb2]
              · exact Below.refl _ _
              · exact (fun _ _ => rfl)
            case o15 =>
              intro a w hfr hG hd
              obtain ⟨d0, d1, _⟩ := hd
              refine ⟨fun hw => ?_, fun hw => absurd hw (by simp [Region.wanted])⟩
              have s17 : a.tmps.getD 17 undef = .bool true := (d0 rfl).now
              have s27 : a.tmps.getD 27 undef = .bool (!fb) := (d1 rfl).now
              refine op_yields (.bool (!fb)) ?_ ?_ ?_
              · simp only [execOp, resolve, List.map_toArray, List.map_cons, List.map_nil, Act.eval, s17, s27]; simp [go_sem, -Array.getD_eq_getD_getElem?, s17, s27]
              · exact Below.refl _ _
              · exact (fun _ _ => rfl)
            case hG => exact fun w' hb => HQ.out.below (((Below.refl _ _).drew).trans (hb.mono (by simp)))
            case hend =>
              intro vs wz hG hv
              have key : vs 15 = .bool (!fb) := by
                obtain ⟨_, _, _, _, _, _, _, _, _, _, _, _, _, _, _, h15, _⟩ := hv
                exact h15.now
              have HQ2 := Lib.hid hG.now
              clear hv hG HPY HCY HQ hfb
              simp only [putAll, Act.put, key]
              clear key
              cases fb with
              | true =>
                go_simp
                go_wp2_with fail
                go_meet
                exact ⟨j, rfl, by omega, ⟨HPR.out, fun z hz => by rw [HY.out] at hz; injection hz with hz; subst hz; exact HFB.out⟩, HQ2.out⟩
              | false =>
                go_simp
                go_wp2_with fail
                go_roundg g2
                case measure => omega
                case rel => exact ⟨j + 1, by have := HJG.out; omega, by first | rfl | go_num, fun q hq z hz => by
                  rcases Nat.lt_or_eq_of_le (Nat.le_of_lt_succ hq) with h | h
                  · exact HPR.out q h z hz
                  · subst h; rw [HY.out] at hz; injection hz with hz; subst hz; exact HFB.out, HQ2.out⟩
      case rest =>
        obtain ⟨j, rfl, hjk, hst, hso⟩ := hcut
        have HST := Lib.hid hst; have HQ := Lib.hid hso
        clear hst hso HSO
        have HSR := Lib.hid (sortK_sorted (fun q : PtR => printL q.set) (rows.take k))
        have HIN : Hid (sortR (rows.take (k + 1)) = (sortR (rows.take k)).take j ++ ⟨.slice SA sn sc, st, vl⟩ :: (sortR (rows.take k)).drop j) := Lib.hid (by
          show sortK _ _ = _
          rw [HNX.out]
          exact insK_front _ _ _ HSR.out (by have h := HSL.out; unfold sortR at h; omega) (fun q hq y hy => HST.out.1 q hq y hy) (fun y hy => HST.out.2 y hy))
        clear HNX HSR HST HPC
        have HOC := Lib.hid (pts_oneC HQ.out.own.each)
        have HEA := Lib.hid HQ.out.own.each
        obtain ⟨_, _, hxe, hkc, hcm⟩ := own_slice HQ.out.own.own
        injection hxe with hx1 hx2 hxe; subst hxe
        clear hx1 hx2
        have ho := HQ.out.own.own
        rw [HSL.out] at ho
        have hsee := Sees.of_own ho
        clear ho
        have HSK := Lib.hid (show Sees wc wc.heap.size 2 X j (pts ((sortR (rows.take k)).take j)) by have h := hsee.take (k := j) hjk; rwa [pts_take] at h)
        obtain ⟨Y, hY⟩ : ∃ Y, (if cx = j then X else X.map (·.add (j * 2))) = Y := ⟨_, rfl⟩
        have HSD := Lib.hid (show Sees wc wc.heap.size 2 Y (k - j) (pts ((sortR (rows.take k)).drop j)) by
          have h := hsee.drop (k := j) (cap := cx) hjk (by have := HSL.out; omega)
          rw [pts_drop] at h
          rwa [hY] at h)
        clear hsee
        have hsz := HQ.out.bel.size
        have h5 := HQ.out.box.lt
        have tok35 : True := trivial
        have tok38 : True := trivial
        have tok42 : True := trivial
        obtain ⟨D, hD⟩ : ∃ D, wc.drew = D := ⟨_, rfl⟩
        have hDs : D.heap.size = wc.heap.size := by rw [← hD]; rfl
        have HBD : Hid (Below wc.heap.size wc D) := Lib.hid (by rw [← hD]; exact (Below.refl _ _).drew)
        have HBX : Hid (Blk D b5 28 [.slice SA sn sc, .int .i64 vl]) := Lib.hid (by rw [← hD]; exact HQ.out.box)
        have h5D : b5 < D.heap.size := by omega
        have c0 := HBX.out.cell 0; have c1 := HBX.out.cell 1
        have e0 := (HBX.out.alloc (.cells #[] 28)).cell 0; have e1 := (HBX.out.alloc (.cells #[] 28)).cell 1
        simp only [List.getElem?_cons_zero, List.getElem?_cons_succ] at c0 c1 e0 e1
        -- 35 behind 31 alone; behind 31, 37; behind 37, 31
        have HA1 := Lib.hid (World.ownsRow_made (base := wc.heap.size) (e := 28) (size := 2) D #[] 0 (by omega) (by unfold maxLen; omega) rfl)
        have HA2 := Lib.hid (HA1.out.alloc (.cells #[.slice SA sn sc, .int .i64 vl] 28))
        have HA3 : Hid (((D.alloc (.cells #[.slice SA sn sc, .int .i64 vl] 28)).alloc (.cells #[] 28)).ownsRow wc.heap.size 28 2 (.slice (some ⟨D.heap.size + 1, 0, none⟩) 0 0) 0 []) := Lib.hid (by
          have h := World.ownsRow_made (base := wc.heap.size) (e := 28) (size := 2) (D.alloc (.cells #[.slice SA sn sc, .int .i64 vl] 28)) #[] 0 (by simp; omega) (by unfold maxLen; omega) rfl
          rwa [show (D.alloc (.cells #[.slice SA sn sc, .int .i64 vl] 28)).heap.size = D.heap.size + 1 by simp] at h)
        have HB1 := Lib.hid (HBD.out.alloc (by omega) (.cells #[] 28))
        have HB2 := Lib.hid (HB1.out.alloc (by simp; omega) (.cells #[.slice SA sn sc, .int .i64 vl] 28))
        have HB3 := Lib.hid ((HBD.out.alloc (by omega) (.cells #[.slice SA sn sc, .int .i64 vl] 28)).alloc (by simp; omega) (.cells #[] 28))
        have HK2 : Hid (Blk ((D.alloc (.cells #[] 28)).alloc (.cells #[.slice SA sn sc, .int .i64 vl] 28)) (D.heap.size + 1) 28 [.slice SA sn sc, .int .i64 vl]) := Lib.hid (by
          have h := (Blk.mk (heap_alloc_new (D.alloc (.cells #[] 28)) (.cells #[.slice SA sn sc, .int .i64 vl] 28)) : Blk _ _ 28 [.slice SA sn sc, .int .i64 vl])
          rwa [show (D.alloc (.cells #[] 28)).heap.size = D.heap.size + 1 by simp] at h)
        have HK3 := Lib.hid ((Blk.mk (heap_alloc_new D (.cells #[.slice SA sn sc, .int .i64 vl] 28)) : Blk _ _ 28 [.slice SA sn sc, .int .i64 vl]).alloc (.cells #[] 28))
        have HV2 : Hid (∀ u ∈ ([.slice SA sn sc, .int .i64 vl] : List Value), u.oneCell' = true) := Lib.hid (by intro u hu; simp at hu; rcases hu with rfl | rfl <;> rfl)
        have HVT : Hid (∀ u ∈ pts ((sortR (rows.take k)).take j), u.oneCell' = true) := Lib.hid (pts_oneC fun x hx => HEA.out x (List.mem_of_mem_take hx))
        have HVD : Hid (∀ u ∈ pts ((sortR (rows.take k)).drop j), u.oneCell' = true) := Lib.hid (pts_oneC fun x hx => HEA.out x (List.mem_of_mem_drop hx))
        have b8 : (0 : Int) ≤ j := by omega
        have b9 : (j : Int) ≤ cx := by have := HSL.out; omega
        have b10 : (j : Int) ≤ k := by omega
        have b11 : ((k : Int) - j).toNat = k - j := by omega
        have hle : wc.heap.size ≤ D.heap.size := by omega
        have HTM : Hid (∀ x ∈ (sortR (rows.take k)).take j, OwnL wc x.sv x.set) := Lib.hid fun x hx => HEA.out x (List.mem_of_mem_take hx)
        have HDM : Hid (∀ x ∈ (sortR (rows.take k)).drop j, OwnL wc x.sv x.set) := Lib.hid fun x hx => HEA.out x (List.mem_of_mem_drop hx)
        have HLT : Hid (((sortR (rows.take k)).take j).length = j) := Lib.hid (by rw [List.length_take, HSL.out]; omega)
        have HLD : Hid (((sortR (rows.take k)).drop j).length = k - j) := Lib.hid (by rw [List.length_drop, HSL.out])
        generalize (sortR (rows.take k)).take j = RT at *
        generalize (sortR (rows.take k)).drop j = RD at *
        go_upto_region 8 with fail
        go_region_law (first
          | (have tk := tok35; refine step_append_own2 rfl (.tmp 31) (.tmp 34) 22 rfl wc.heap.size 28 i0 (.agg #[.slice none 0 0, .int .i64 0]) 2 32 Try.underlying22 HI.out HZ0.out HZ1.out HZ2.out rfl (by decide) (.slice (some ⟨D.heap.size, 0, none⟩) 0 0) 0 [] (by simp [Act.eval]) HA1.out _ X j cx (pts RT) (by simp [Act.eval]) (HSK.out.below HB1.out) HVT.out (by unfold maxLen; omega) (by omega) (by simp; omega) ?_; intro A7 c7 w7 hown7 hgr7; have HO7 := Lib.hid hown7; have HB7 := Lib.hid (HB1.out.grown hgr7 (by simp; omega) (by simp [Value.ownBlock]; omega)); have HX7 := Lib.hid ((HBX.out.alloc (.cells #[] 28)).grown hgr7 (by simp [Value.ownBlock]; omega)); have f0 := HX7.out.cell 0; have f1 := HX7.out.cell 1; simp only [List.getElem?_cons_zero, List.getElem?_cons_succ] at f0 f1; clear tok35 tk hown7 hgr7)
          | (have tk := tok35; refine step_append_own2 rfl (.tmp 31) (.tmp 34) 22 rfl wc.heap.size 28 i0 (.agg #[.slice none 0 0, .int .i64 0]) 2 32 Try.underlying22 HI.out HZ0.out HZ1.out HZ2.out rfl (by decide) (.slice (some ⟨D.heap.size, 0, none⟩) 0 0) 0 [] (by simp [Act.eval]) HA2.out _ X j cx (pts RT) (by simp [Act.eval]) (HSK.out.below HB2.out) HVT.out (by unfold maxLen; omega) (by omega) (by simp; omega) ?_; intro A7 c7 w7 hown7 hgr7; have HO7 := Lib.hid hown7; have HB7 := Lib.hid (HB2.out.grown hgr7 (by simp; omega) (by simp [Value.ownBlock]; omega)); have HX7 := Lib.hid (HK2.out.grown hgr7 (by simp [Value.ownBlock])); clear tok35 tk hown7 hgr7)
          | (have tk := tok35; refine step_append_own2 rfl (.tmp 31) (.tmp 34) 22 rfl wc.heap.size 28 i0 (.agg #[.slice none 0 0, .int .i64 0]) 2 32 Try.underlying22 HI.out HZ0.out HZ1.out HZ2.out rfl (by decide) (.slice (some ⟨D.heap.size + 1, 0, none⟩) 0 0) 0 [] (by simp [Act.eval]) HA3.out _ X j cx (pts RT) (by simp [Act.eval]) (HSK.out.below HB3.out) HVT.out (by unfold maxLen; omega) (by omega) (by simp; omega) ?_; intro A7 c7 w7 hown7 hgr7; have HO7 := Lib.hid hown7; have HB7 := Lib.hid (HB3.out.grown hgr7 (by simp; omega) (by simp [Value.ownBlock]; omega)); have HX7 := Lib.hid (HK3.out.grown hgr7 (by simp [Value.ownBlock])); clear tok35 tk hown7 hgr7)
          | (have tk := tok38; refine step_append_own2 rfl (.tmp 35) (.tmp 37) 22 rfl wc.heap.size 28 i0 (.agg #[.slice none 0 0, .int .i64 0]) 2 32 Try.underlying22 HI.out HZ0.out HZ1.out HZ2.out rfl (by decide) (.slice A7 (0 + j) c7) (0 + j) ([] ++ pts RT) (by simp [Act.eval]) (HO7.out.alloc (.cells #[.slice SA sn sc, .int .i64 vl] 28)) _ (some ⟨w7.heap.size, 0, none⟩) 1 1 [.slice SA sn sc, .int .i64 vl] (by simp [Act.eval]) ((Blk.mk (heap_alloc_new w7 (.cells #[.slice SA sn sc, .int .i64 vl] 28)) : Blk _ _ 28 [.slice SA sn sc, .int .i64 vl]).sees (size := 2) (n := 1) rfl (List.prefix_refl _)) HV2.out (by unfold maxLen; omega) (by omega) (by have := HB7.out.size; simp; omega) ?_; intro A8 c8 w8 hown8 hgr8; have HO8 := Lib.hid hown8; have HB8 := Lib.hid ((HB7.out.alloc HB7.out.size (.cells #[.slice SA sn sc, .int .i64 vl] 28)).grown hgr8 (by have := HB7.out.size; simp; omega) (fun g hg => (HO7.out.lt g hg).1)); clear tok38 tk hown8 hgr8)
          | (have tk := tok38; refine step_append_own2 rfl (.tmp 35) (.tmp 37) 22 rfl wc.heap.size 28 i0 (.agg #[.slice none 0 0, .int .i64 0]) 2 32 Try.underlying22 HI.out HZ0.out HZ1.out HZ2.out rfl (by decide) (.slice A7 (0 + j) c7) (0 + j) ([] ++ pts RT) (by simp [Act.eval]) HO7.out _ _ 1 1 [.slice SA sn sc, .int .i64 vl] (by simp [Act.eval]) (HX7.out.sees (size := 2) (n := 1) rfl (List.prefix_refl _)) HV2.out (by unfold maxLen; omega) (by omega) HB7.out.size ?_; intro A8 c8 w8 hown8 hgr8; have HO8 := Lib.hid hown8; have HB8 := Lib.hid (HB7.out.grown hgr8 HB7.out.size (fun g hg => (HO7.out.lt g hg).1)); clear tok38 tk hown8 hgr8)
          | (have tk := tok42; refine step_append_own2 rfl (.tmp 38) (.tmp 41) 22 rfl wc.heap.size 28 i0 (.agg #[.slice none 0 0, .int .i64 0]) 2 32 Try.underlying22 HI.out HZ0.out HZ1.out HZ2.out rfl (by decide) (.slice A8 (0 + j + 1) c8) (0 + j + 1) ([] ++ pts RT ++ [.slice SA sn sc, .int .i64 vl]) (by simp [Act.eval]) HO8.out _ Y (k - j) (cx - j) (pts RD) (by simp [Act.eval]) (HSD.out.below HB8.out) HVD.out (by unfold maxLen; omega) (by omega) HB8.out.size ?_; intro A9 c9 w9 hown9 hgr9; have HO9 := Lib.hid hown9; have HB9 := Lib.hid (HB8.out.grown hgr9 HB8.out.size (fun g hg => (HO8.out.lt g hg).1)); clear tok42 tk hown9 hgr9)
          | fail)
        all_goals
          clear HA1 HA2 HA3 HB1 HB2 HB3 HK2 HK3 HX7 HB7 HB8 HO7 HO8 HSK HSD
          have HV9 : Hid (PtsAt w0.heap.size (.slice A9 (k + 1) c9) (sortR (rows.take (k + 1))) w9) := Lib.hid (by
            rw [HIN.out]
            have hlen : (RT ++ (⟨.slice SA sn sc, st, vl⟩ : PtR) :: RD).length = k + 1 := by rw [List.length_append, List.length_cons, HLT.out, HLD.out]; omega
            refine ⟨?_, fun x hx => ?_⟩
            · rw [hlen]
              have h := own_mono HO9.out (base' := w0.heap.size) hsz
              rw [show 0 + j + 1 + (k - j) = k + 1 by omega] at h
              have e : pts (RT ++ (⟨.slice SA sn sc, st, vl⟩ : PtR) :: RD) = [] ++ pts RT ++ [.slice SA sn sc, .int .i64 vl] ++ pts RD := by
                rw [pts_append, List.nil_append, List.append_assoc]; rfl
              rw [e]; exact h
            · rcases List.mem_append.1 hx with hx | hx
              · exact (HTM.out x hx).below HB9.out
              · rcases List.mem_cons.1 hx with rfl | hx
                · exact HQ.out.pl.below HB9.out
                · exact (HDM.out x hx).below HB9.out)
          have HB10 := Lib.hid (HQ.out.bel.trans (HB9.out.mono hsz))
          clear HO9 HB9
          rw [show j + 1 + (k - j) = k + 1 by omega]
          go_wp2_with fail
          go_roundg g
          case measure => omega
          case rel => exact ⟨k + 1, A9, c9, by have := HKG.out; omega, by first | rfl | go_num, rfl, HV9.out, HB10.out⟩
end Go.Proofs.Ytbndmmfpoljeaaa
