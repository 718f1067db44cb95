/- Texts, merged in one. -/
import Derived.Test.YtlmakdclebbbkaaGreatBase43
import Derived.Test.YtlmakdclebbbkaaGreatBase47
namespace Go.Proofs.YtlmakdclebbbkaaGreat
open Go.ChangeShapes Go.WideShapes Go.ChangeAt Go.RowKit Go.Lib
set_option linter.unusedVariables false
set_option linter.unusedSimpArgs false
set_option maxRecDepth 100000
theorem Tryz.infoIn4 : (Tryz.prog.info? 3).map (fun i => (i.zero, i.size, i.bytes)) = some (some (.int .i64 0), 1, 8) := by kernel_rfl
structure BxAt (w : World) (bx d : Nat) (x : XE) (W : World) : Prop where
  box : Blk W bx 37 [.int .i64 x.kd, .int .i64 x.n, x.mv, x.nv, x.kv]
  ok : okX d x W
  bel : Below w.heap.size w W
theorem BxAt.below {w W W' : World} {bx d : Nat} {x : XE} (h : BxAt w bx d x W) (hb : Below W.heap.size W W') : BxAt w bx d x W' := ⟨h.box.below hb h.box.lt, okX_below hb d x h.ok, h.bel.trans (hb.mono h.bel.size)⟩
set_option maxHeartbeats 4000000 in
theorem at_x (d : Nat) (hd : d ≤ 1000000) (x : XE) (w0 w : World) (g : Nat) (v : Value) (D : List SK) (t : Int) (hs : x.pe.small) (h : okX d x w) (hev : x.pe.right = true → EvOk d x w0 g v D t w) :
    Calls Tryz.prog 10 #[x.val, .pointer (some ⟨g, 0, none⟩), .int .i64 t] w (VAnsE (evalR D t d x.pe).1 (evalR D t d x.pe).2 w) := by
  obtain ⟨A1, c1, A2, c2, A3, c3, e1, e2, e3⟩ := okX_forms h
  obtain ⟨kk, nn, mv, ms, nv, ns, kv, ks⟩ := x
  simp only [XE.mv, XE.nv, XE.kv, XE.ms, XE.ns, XE.kids] at e1 e2 e3
  subst e1; subst e2; subst e3
  have hb : Below w.heap.size w (w.alloc (.cells #[.int .i64 kk, .int .i64 nn, .slice A1 ms.length c1, .slice A2 ns.length c2, .slice A3 ks.length c3] 37)) := (Below.refl _ _).alloc (Nat.le_refl _) _
  have HA := Lib.hid (show BxAt w w.heap.size d (XE.mk kk nn (.slice A1 ms.length c1) ms (.slice A2 ns.length c2) ns (.slice A3 ks.length c3) ks) (w.alloc (.cells #[.int .i64 kk, .int .i64 nn, .slice A1 ms.length c1, .slice A2 ns.length c2, .slice A3 ks.length c3] 37)) from ⟨Blk.mk (heap_alloc_new w (.cells #[.int .i64 kk, .int .i64 nn, .slice A1 ms.length c1, .slice A2 ns.length c2, .slice A3 ks.length c3] 37)), okX_below hb d _ h, hb⟩)
  have HRT := Lib.hid (fun V (hV : BxAt w w.heap.size d (XE.mk kk nn (.slice A1 ms.length c1) ms (.slice A2 ns.length c2) ns (.slice A3 ks.length c3) ks) V) => right_x d hd _ V hs hV.ok)
  have HCM := Lib.hid (fun (hr : (XE.mk kk nn (.slice A1 ms.length c1) ms (.slice A2 ns.length c2) ns (.slice A3 ks.length c3) ks).pe.right = true) V (hV : Below w.heap.size w V) => comE_any d _ w0 V g v D t ((hev hr).below hV) (by
    have h2 := hr; unfold PE.right at h2; simp only [Bool.and_eq_true, decide_eq_true_eq] at h2; rw [h2.1]; decide))
  unfold XE.val XE.kd XE.n XE.mv XE.nv XE.kv at HRT HCM
  simp only at HRT HCM
  obtain ⟨L, er, hR⟩ : ∃ L er, evalR D t d (XE.mk kk nn (.slice A1 ms.length c1) ms (.slice A2 ns.length c2) ns (.slice A3 ks.length c3) ks).pe = (L, er) := ⟨_, _, rfl⟩
  rw [hR]
  have HRS := Lib.hid hR
  unfold evalR at HRS
  clear h hb hs hev hR
  show Calls _ _ #[.agg #[.int .i64 kk, .int .i64 nn, .slice A1 ms.length c1, .slice A2 ns.length c2, .slice A3 ks.length c3], .pointer (some ⟨g, 0, none⟩), .int .i64 t] _ _
  generalize comF D t d (XE.mk kk nn (.slice A1 ms.length c1) ms (.slice A2 ns.length c2) ns (.slice A3 ks.length c3) ks).pe = r at *
  generalize (XE.mk kk nn (.slice A1 ms.length c1) ms (.slice A2 ns.length c2) ns (.slice A3 ks.length c3) ks).pe.right = rt at *
  obtain ⟨⟨rn, rnn, rps⟩, re⟩ := r
  have HG := Lib.hid (show ∃ g, w.heap.size = g from ⟨_, rfl⟩)
  go_enter Tryz.func10, Tryz.ntmps10
  go_upto_region 1 with fail
  obtain ⟨bx, hbx⟩ := HG.out
  rw [hbx] at HA HRT ⊢
  clear HG hbx
  generalize w.alloc (.cells #[.int .i64 kk, .int .i64 nn, .slice A1 ms.length c1, .slice A2 ns.length c2, .slice A3 ks.length c3] 37) = W1 at *
  obtain ⟨x0, x1, x2, x3, x4⟩ := blk_cells5 HA.out.box
  simp only [XE.kd, XE.n, XE.mv, XE.nv, XE.kv] at x0 x1 x2 x3 x4
  cases rt with
  | false =>
    have HR : Hid (L = [] ∧ er = 7) := Lib.hid (by have h := HRS.out; rw [if_neg (by decide)] at h; injection h with h1 h2; exact ⟨h1.symm, h2.symm⟩)
    clear HRS HCM
    go_wp2_with fail
    (with_reducible refine (HRT.out _ HA.out).mono ?_); rintro e w2 ⟨rfl, hb2⟩
    have HB2 := Lib.hid (HA.out.bel.trans (hb2.mono HA.out.bel.size))
    clear hb2
    go_wp2_with fail
    go_ret2
    exact ⟨.slice none 0 0, by rw [HR.out.2] <;> rfl, by rw [HR.out.1]; exact VAt.nil _, HB2.out⟩
  | true =>
    have HR : Hid (L = rps ∧ er = re) := Lib.hid (by have h := HRS.out; rw [if_pos rfl] at h; injection h with h1 h2; exact ⟨h1.symm, h2.symm⟩)
    have HCC := Lib.hid (HCM.out rfl)
    clear HRS HCM
    go_wp2_with fail
    (with_reducible refine (HRT.out _ HA.out).mono ?_); rintro e w2 ⟨rfl, hb2⟩
    have HA2 := Lib.hid (HA.out.below hb2)
    clear hb2 x0 x1 x2 x3 x4 HA
    obtain ⟨x0, x1, x2, x3, x4⟩ := blk_cells5 HA2.out.box
    simp only [XE.kd, XE.n, XE.mv, XE.nv, XE.kv] at x0 x1 x2 x3 x4
    go_wp2_with fail
    (with_reducible refine (HCC.out _ HA2.out.bel).mono ?_); rintro e w3 ⟨sv, rfl, hsv, hb3⟩
    have HB3 := Lib.hid (HA2.out.bel.trans (hb3.mono HA2.out.bel.size)); have HV3 := Lib.hid hsv
    obtain ⟨SA, sn, sc, rfl⟩ := hsv.form
    clear hb3 hsv x0 x1 x2 x3 x4 HA2 HCC
    go_wp2_with fail
    go_ret2
    have hb4 : Below w3.heap.size w3 (w3.alloc (.cells #[.bool rn, .int .i64 rnn, .slice SA sn sc] 95)) := (Below.refl _ _).alloc (Nat.le_refl _) _
    exact ⟨.slice SA sn sc, by rw [HR.out.2] <;> rfl, by rw [HR.out.1]; exact HV3.out.below hb4, HB3.out.trans (hb4.mono HB3.out.size)⟩
def PE.nOf : PE → Int
  | .mk _ n _ _ _ => n
def PE.msOf : PE → List Mtc
  | .mk _ _ ms _ _ => ms
theorem XE.nOf (q : XE) : q.pe.nOf = q.n := by obtain ⟨kk, nn, mv, ms, nv, ns, kv, ks⟩ := q; rfl
theorem XE.msOf (q : XE) : q.pe.msOf = q.ms := by obtain ⟨kk, nn, mv, ms, nv, ns, kv, ks⟩ := q; rfl
def chgX (D : List SK) (f t : Int) (x : PE) : List Int := compact (isort (x.picks.flatMap fun p => chgS D p.nOf f t p.msOf))
theorem pick_n : ∀ (d : Nat) (x : PE), x.deep ≤ d → x.ty ≠ 0 → ∀ p ∈ x.picks, 1 ≤ p.nOf ∧ p.nOf ≤ 1048576
  | 0, x, hd, _ => by
    obtain ⟨k, n, ms, ns, ks⟩ := x
    unfold PE.deep at hd; omega
  | d + 1, x, hd, ht => by
    intro p hp
    cases ty_typed ht with
    | num n => unfold PE.picks picksP at hp; rw [if_neg (by decide)] at hp; simp at hp
    | pick n ms hm h1 h2 =>
      unfold PE.picks picksP at hp; rw [if_pos rfl] at hp
      simp only [List.append_nil, List.mem_singleton] at hp; subst hp; exact ⟨h1, h2⟩
    | one k ns a h1 h2 hn ha =>
      have hda : a.deep ≤ d := by unfold PE.deep deepsP at hd; simp [deepsP] at hd; omega
      unfold PE.picks picksP picksP at hp
      rw [if_neg (by omega)] at hp
      simp only [List.nil_append, List.append_nil] at hp
      exact pick_n d a hda (by rw [ha]; decide) p hp
    | two k a b h1 h2 ha hb =>
      have hds : a.deep ≤ d ∧ b.deep ≤ d := by unfold PE.deep deepsP deepsP at hd; omega
      unfold PE.picks picksP picksP picksP at hp
      rw [if_neg (by omega)] at hp
      simp only [List.nil_append, List.append_nil, List.mem_append] at hp
      rcases hp with hp | hp
      · exact pick_n d a hds.1 ha p hp
      · exact pick_n d b hds.2 hb p hp
theorem chgS_len2 (D : List SK) (look f t : Int) (ms : List Mtc) (hD : DOk D) : (chgS D look f t ms).length ≤ 400 * D.length := by
  have h1 : (D.flatMap (chgOne look f t ms)).length ≤ 400 * D.length := by
    have key : ∀ E : List SK, (∀ x ∈ E, x.2.length ≤ 200) → (E.flatMap (chgOne look f t ms)).length ≤ 400 * E.length := by
      intro E hE
      induction E with
      | nil => simp
      | cons x E ih =>
        have h2 := ih fun y hy => hE y (List.mem_cons_of_mem _ hy)
        have h3 := hE x List.mem_cons_self
        have h4 := chg_len look f t x.2
        have h5 : (chgOne look f t ms x).length ≤ 2 * x.2.length := by
          unfold chgOne
          split
          · exact h4
          · simp
        rw [List.flatMap_cons, List.length_append, List.length_cons]; omega
    exact key D fun x hx => (hD.row x hx).2.1
  have h2 := compact_length_le (isort (D.flatMap (chgOne look f t ms)))
  rw [isort_len] at h2
  unfold chgS; omega
theorem lim_picks {D : List SK} {d n : Nat} (h : lim D (d + 1) ≤ 500) (hn : n ≤ 2 ^ (d + 1)) : n * (400 * D.length) ≤ 400000 := by
  simp only [lim] at h
  have h1 : n * D.length ≤ 2 ^ (d + 1) * D.length := Nat.mul_le_mul_right _ hn
  have h2 : 2 ^ (d + 1) * D.length = 2 * (D.length * 2 ^ d) := by rw [Nat.pow_succ, Nat.mul_comm (2 ^ d) 2, Nat.mul_assoc, Nat.mul_comm (2 ^ d)]
  have h3 : n * (400 * D.length) = 400 * (n * D.length) := by rw [← Nat.mul_assoc, Nat.mul_comm n 400, Nat.mul_assoc]
  omega
set_option maxHeartbeats 8000000 in
theorem changes_x (d : Nat) (hd : d ≤ 1000000) (x : XE) (w0 w : World) (g : Nat) (v : Value) (D : List SK) (t0 f t : Int) (hev : EvOk d x w0 g v D t0 w) (hr : x.pe.right = true) :
    Calls Tryz.prog 13 #[x.val, .pointer (some ⟨g, 0, none⟩), .int .i64 f, .int .i64 t] w (OwnAns 3 1 (chgX D f t x.pe).length (ints (chgX D f t x.pe)) w) := by
  obtain ⟨i0, hi0, hz0, hz1, hz2⟩ := info_parts Tryz.infoIn4
  have h := hev.ok
  have hty : x.pe.ty = 2 ∧ x.pe.deep ≤ 8 := by
    have h2 := hr; unfold PE.right at h2; simp only [Bool.and_eq_true, decide_eq_true_eq] at h2; exact h2
  have hn0 : x.pe.ty ≠ 0 := by rw [hty.1]; decide
  have hpl8 := picks_le 8 x.pe hty.2 hn0
  have hpl := picks_le d x.pe (okX_deep d x w h) hn0
  have hpn := pick_n 8 x.pe hty.2 hn0
  obtain ⟨K, hK⟩ : ∃ K, 400 * D.length = K := ⟨_, rfl⟩
  have hKP : x.pe.picks.length * K ≤ 400000 := by
    rw [← hK]
    cases d with
    | zero => exact h.elim
    | succ d => exact lim_picks hev.lim hpl
  have hlen1 : ∀ look ms, (chgS D look f t ms).length ≤ K := fun look ms => by rw [← hK]; exact chgS_len2 D look f t ms hev.sto.dok
  have HLN1 := Lib.hid hlen1
  obtain ⟨A1, c1, A2, c2, A3, c3, e1, e2, e3⟩ := okX_forms h
  obtain ⟨kk, nn, mv, ms, nv, ns, kv, ks⟩ := x
  simp only [XE.mv, XE.nv, XE.kv, XE.ms, XE.ns, XE.kids] at e1 e2 e3
  subst e1; subst e2; subst e3
  have hb : Below w.heap.size w (w.alloc (.cells #[.int .i64 kk, .int .i64 nn, .slice A1 ms.length c1, .slice A2 ns.length c2, .slice A3 ks.length c3] 37)) := (Below.refl _ _).alloc (Nat.le_refl _) _
  have HA := Lib.hid (show BxAt w w.heap.size d (XE.mk kk nn (.slice A1 ms.length c1) ms (.slice A2 ns.length c2) ns (.slice A3 ks.length c3) ks) (w.alloc (.cells #[.int .i64 kk, .int .i64 nn, .slice A1 ms.length c1, .slice A2 ns.length c2, .slice A3 ks.length c3] 37)) from ⟨Blk.mk (heap_alloc_new w (.cells #[.int .i64 kk, .int .i64 nn, .slice A1 ms.length c1, .slice A2 ns.length c2, .slice A3 ks.length c3] 37)), okX_below hb d _ h, hb⟩)
  have HST := Lib.hid (fun V (hV : Below w.heap.size w V) => hev.sto.below hV)
  have HRT := Lib.hid (fun V (hV : BxAt w w.heap.size d (XE.mk kk nn (.slice A1 ms.length c1) ms (.slice A2 ns.length c2) ns (.slice A3 ks.length c3) ks) V) => right_x d hd _ V hev.small hV.ok)
  have HPC := Lib.hid (fun V (hV : BxAt w w.heap.size d (XE.mk kk nn (.slice A1 ms.length c1) ms (.slice A2 ns.length c2) ns (.slice A3 ks.length c3) ks) V) => picks_any d _ V hV.ok (fit_typed hn0) (by omega))
  rw [hr] at HRT
  unfold XE.val XE.kd XE.n XE.mv XE.nv XE.kv at HRT HPC
  simp only at HRT HPC
  obtain ⟨RES, hR⟩ : ∃ r, chgX D f t (XE.mk kk nn (.slice A1 ms.length c1) ms (.slice A2 ns.length c2) ns (.slice A3 ks.length c3) ks).pe = r := ⟨_, rfl⟩
  rw [hR]
  have HRS := Lib.hid hR
  unfold chgX at HRS
  have HPN := Lib.hid hpn
  have HKP := Lib.hid hKP
  clear h hb hev hr hR hty hn0 hpl hpn hK hKP hlen1
  show Calls _ _ #[.agg #[.int .i64 kk, .int .i64 nn, .slice A1 ms.length c1, .slice A2 ns.length c2, .slice A3 ks.length c3], .pointer (some ⟨g, 0, none⟩), .int .i64 f, .int .i64 t] _ _
  generalize (XE.mk kk nn (.slice A1 ms.length c1) ms (.slice A2 ns.length c2) ns (.slice A3 ks.length c3) ks).pe.picks = PS at *
  have HG := Lib.hid (show ∃ g, w.heap.size = g from ⟨_, rfl⟩)
  go_enter Tryz.func13, Tryz.ntmps13
  go_upto_region 1 with fail
  obtain ⟨bx, hbx⟩ := HG.out
  rw [hbx] at HA HRT HPC ⊢
  have HBX := Lib.hid hbx
  clear HG hbx
  generalize w.alloc (.cells #[.int .i64 kk, .int .i64 nn, .slice A1 ms.length c1, .slice A2 ns.length c2, .slice A3 ks.length c3] 37) = W1 at *
  obtain ⟨x0, x1, x2, x3, x4⟩ := blk_cells5 HA.out.box
  simp only [XE.kd, XE.n, XE.mv, XE.nv, XE.kv] at x0 x1 x2 x3 x4
  go_wp2_with fail
  (with_reducible refine (HRT.out _ HA.out).mono ?_); rintro e w2 ⟨rfl, hb2⟩
  have HA2 := Lib.hid (HA.out.below hb2)
  clear hb2 x0 x1 x2 x3 x4 HA HRT
  obtain ⟨x0, x1, x2, x3, x4⟩ := blk_cells5 HA2.out.box
  simp only [XE.kd, XE.n, XE.mv, XE.nv, XE.kv] at x0 x1 x2 x3 x4
  go_wp2_with fail
  (with_reducible refine (HPC.out _ HA2.out).mono ?_); rintro e w3 ⟨pv, rfl, ⟨PA, pn, pc, qs, rfl, hprow, hpk, hpl, hpm⟩, hb3⟩
  have HB3 := Lib.hid (HA2.out.bel.trans (hb3.mono HA2.out.bel.size))
  have HPR := Lib.hid (fun V (hV : Below w3.heap.size w3 V) => own_below hprow hV (Nat.le_refl _))
  have HPK := Lib.hid (fun V (hV : Below w3.heap.size w3 V) q (hq : q ∈ qs) => (hpk q hq).below hV)
  have HPL := Lib.hid hpl
  have HPM := Lib.hid hpm
  have hp2 : pn ≤ 256 := by rw [← hpl, show qs.length = (qs.map XE.pe).length from (List.length_map XE.pe).symm, hpm]; exact hpl8
  obtain ⟨pA, pC, hpe, hpc1, hpc2⟩ := own_slice hprow
  injection hpe with hpe1 hpe2 hpe3
  subst hpe1; subst hpe3
  have HQN := Lib.hid (fun q (hq : q ∈ qs) => show 1 ≤ q.n ∧ q.n ≤ 1048576 from by
    have h2 := HPN.out q.pe (by rw [← hpm]; exact List.mem_map_of_mem hq)
    rwa [XE.nOf] at h2)
  have HKP2 := Lib.hid (show pn * K ≤ 400000 by rw [← hpl, show qs.length = (qs.map XE.pe).length from (List.length_map XE.pe).symm, hpm]; exact HKP.out)
  have HFM := Lib.hid (show compact (isort (qs.flatMap fun q => chgS D q.n f t q.ms)) = RES from by
    rw [← HRS.out, ← hpm, List.flatMap_map]
    simp only [XE.nOf, XE.msOf])
  clear hb3 x0 x1 x2 x3 x4 HPC HA2 hprow hpk hpl hpm HPN HRS HKP hpl8
  go_wp2_with fail
  go_loopg [9, 18] pn (fun gg x9 x18 wr => ∃ (j : Nat) (X : Option Addr) (cx : Nat) (C : List Int), j + gg = pn ∧ x18 = .int .i64 j ∧ x9 = .slice X C.length cx ∧ wr.ownsRow w3.heap.size 3 1 (.slice X C.length cx) C.length (ints C) ∧ Below w3.heap.size w3 wr ∧ C.length ≤ j * K ∧ C = (qs.take j).flatMap (fun q => chgS D q.n f t q.ms))
  case atStart => exact ⟨0, none, 0, [], by omega, rfl, rfl, by simpa [ints] using World.ownsRow_nil _ _ 3 1, Below.refl _ _, by simp, by simp⟩
  case round =>
    obtain ⟨j, X, cx, C, hjg, rfl, rfl, hrow, hbel, hcl, hcs⟩ := hrel
    have HR := Lib.hid hrow; have HB := Lib.hid hbel; have HS := Lib.hid hcs
    have hws := hbel.size
    have HBX2 : Hid (∀ g, (Value.slice X C.length cx).ownBlock = some g → w3.heap.size ≤ g) := Lib.hid fun g hg => (HR.out.lt g hg).1
    have HJK := Lib.hid (fun (q : Nat) (hq : q ≤ pn) => (Nat.le_trans (Nat.mul_le_mul_right K hq) HKP2.out : q * K ≤ 400000))
    clear hrow hbel hcs
    cases gk with
    | zero =>
      obtain rfl : j = pn := by omega
      have HE := Lib.hid (show compact (isort C) = RES by rw [← HFM.out, HS.out, List.take_of_length_le (by rw [HPL.out]; exact Nat.le_refl _)])
      have HIL := Lib.hid (isort_len C)
      have htl : C.length ≤ 1000000 := by have := HKP2.out; omega
      clear HS HFM
      have HSO := Lib.hid (sort_own w3.heap.size X C.length cx C wr HR.out htl)
      have HCO := Lib.hid (fun V h => compact_ownI w3.heap.size X C.length cx (isort C) V h htl)
      generalize isort C = zs at *
      generalize C.length = tl at *
      go_wp2_with fail
      (with_reducible refine HSO.out.mono ?_); rintro e w5 ⟨rfl, hown, hgr⟩
      have HO := Lib.hid hown
      have HB1 := Lib.hid (HB.out.grown hgr hws HBX2.out)
      clear hown hgr HSO HR
      go_wp2_with fail
      (with_reducible refine (HCO.out _ HO.out).mono ?_); rintro e w6 ⟨rfl, hown, hgr⟩
      rw [HE.out] at hown ⊢
      obtain ⟨A9, c9, hv9, hq1, hq2⟩ := own_slice hown
      injection hv9 with hv9 _ hv8; subst hv9; subst hv8
      have hs1 := HB1.out.size
      have HO2 := Lib.hid (own_mono hown HB3.out.size)
      have HB2 := Lib.hid (HB3.out.trans ((HB1.out.grown hgr hs1 HBX2.out).mono HB3.out.size))
      clear hown hgr
      go_wp2_with fail
      go_ret
      exact ownAns HO2.out HB2.out rfl hq1 hq2
    | succ gg =>
      have hjl : j < pn := by omega
      obtain ⟨ad, hkl, hPA, e0, e1, e2, e3, e4⟩ := (Sees.of_own (HPR.out wr HB.out)).kid hjl
      subst hPA
      have hq := HPK.out wr HB.out qs[j] (List.getElem_mem _)
      have hqn := HQN.out qs[j] (List.getElem_mem _)
      have HF := Lib.hid (flatMap_more (fun q : XE => chgS D q.n f t q.ms) hkl)
      obtain ⟨B1, b1, hv1, hm1, hm2⟩ := own_slice hq.mv
      obtain ⟨B2, b2, hv2, _⟩ := hq.nv
      obtain ⟨B3, b3, hv3, _⟩ := hq.kv
      have HMV := Lib.hid hq.mv
      rw [hq.kd] at e0
      rw [hv1] at e2 HMV; rw [hv2] at e3; rw [hv3] at e4
      have HCK := Lib.hid (HLN1.out qs[j].n qs[j].ms)
      clear hv1 hv2 hv3 hq
      generalize qs[j] = q at *
      obtain ⟨l1, hl1⟩ : ∃ l, q.ms.length = l := ⟨_, rfl⟩
      rw [hl1] at e2 HMV hm1
      clear hl1
      generalize q.ms = qms at *
      generalize q.n = qn at *
      have hb1 := (Below.refl wr.heap.size wr).alloc (Nat.le_refl _) (.cells #[.int .i64 2, .int .i64 qn, .slice B1 l1 b1, .slice B2 0 b2, .slice B3 0 b3] 37)
      have HBW := Lib.hid (HB.out.trans (hb1.mono hws))
      have HR1 := Lib.hid (own_below HR.out hb1 (Nat.le_refl _))
      have HXQ := Lib.hid (Blk.mk (heap_alloc_new wr (.cells #[.int .i64 2, .int .i64 qn, .slice B1 l1 b1, .slice B2 0 b2, .slice B3 0 b3] 37)) : Blk _ wr.heap.size 37 [.int .i64 2, .int .i64 qn, .slice B1 l1 b1, .slice B2 0 b2, .slice B3 0 b3])
      have HMS := Lib.hid (own_below HMV.out hb1 (Nat.le_refl _))
      clear hb1 HB HR HMV
      go_upto_region 7 with fail
      clear e0 e1 e2 e3 e4
      obtain ⟨bq, hbq⟩ : ∃ b, wr.heap.size = b := ⟨_, rfl⟩
      rw [hbq] at HXQ ⊢
      clear hbq
      generalize wr.alloc (.cells #[.int .i64 2, .int .i64 qn, .slice B1 l1 b1, .slice B2 0 b2, .slice B3 0 b3] 37) = W5 at *
      obtain ⟨z0, z1, z2, z3, z4⟩ := blk_cells5 HXQ.out
      have HCH := Lib.hid ((HST.out W5 (HB3.out.trans (HBW.out.mono HB3.out.size))).changes qn f t B1 l1 b1 qms (Sees.of_own HMS.out) (by omega) ⟨by omega, by omega⟩)
      generalize chgS D qn f t qms = us at *
      go_wp2_with fail
      (with_reducible refine HCH.out.mono ?_); rintro e w6 ⟨A5, c5, rfl, hown, hbel, hq3, hq4⟩
      have HX := Lib.hid (Sees.of_own hown)
      have HR2 := Lib.hid (own_below HR1.out hbel (Nat.le_refl _))
      have hs2 := hbel.size
      have hs5 := HBW.out.size
      have HB2 := Lib.hid (HBW.out.trans (hbel.mono (by omega)))
      have hj1 := HJK.out (j + 1) (by omega)
      have hj2 : (j + 1) * K = j * K + K := Nat.succ_mul j K
      have hck := HCK.out
      clear hown hbel HCH HR1 HBW z0 z1 z2 z3 z4 HXQ
      go_wp2_with (at_builtin; refine wpList_append_at rfl (.tmp 22) (.tmp 30) 45 rfl w3.heap.size 3 i0 (.int .i64 0) 1 8 Tryz.underlying45 hi0 hz0 hz1 hz2 rfl (by decide) (.slice X C.length cx) C.length (ints C) rfl HR2.out _ _ us.length c5 (ints us) rfl HX.out (ints_one _) (by unfold maxLen; omega) (by omega) (by omega) ?_)
      intro v3 w7 hown3 hgr3 hwh3
      obtain ⟨A6, c6, rfl, hc3, hc4⟩ := own_slice hown3
      have HRN := Lib.hid hown3
      have HB7 := Lib.hid (HB2.out.grown hgr3 (by omega) HBX2.out)
      clear hown3 hgr3 hwh3 HX HB2 HBX2
      have HLN := Lib.hid (show (C ++ us).length = C.length + us.length by simp)
      have HN := Lib.hid (show C ++ us = (qs.take (j + 1)).flatMap (fun q => chgS D q.n f t q.ms) by rw [HF.out, ← HS.out])
      go_wp2_with fail
      go_roundg gg
      case measure => omega
      case rel => exact ⟨j + 1, A6, c6, C ++ us, by omega, by go_num, by rw [HLN.out], by rw [HLN.out, ints_append]; exact HRN.out, HB7.out, by rw [HLN.out]; omega, HN.out⟩
end Go.Proofs.YtlmakdclebbbkaaGreat
