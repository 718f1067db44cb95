/- klaxonref7.Print. -/
import Derived.Test.YtealflkblkfhbaaDoorRefPrint
import Derived.Test.YtealflkblkfhbaaDoorKeepX
namespace Go.Proofs.YtealflkblkfhbaaDoor
open Go.ChangeShapes Go.WideShapes Go.ChangeAt Go.RowKit
set_option linter.unusedVariables false
set_option linter.unusedSimpArgs false
set_option maxRecDepth 100000
theorem raggs_any (w : World) : Calls Tryd.prog 38 #[] w fun e w' => e = .returned (.slice (some ⟨w.heap.size, 0, none⟩) 4 4) ∧ Below w.heap.size w w' ∧ Blk w' w.heap.size 9 (strs aggsL) := by
  go_enter Tryd.func38, Tryd.ntmps38
  go_wp2_with fail
  go_ret
  exact ⟨rfl, (Below.refl _ _).alloc (Nat.le_refl _) _, Blk.mk (heap_alloc_new w _)⟩
theorem rops_any (w : World) : Calls Tryd.prog 39 #[] w fun e w' => e = .returned (.slice (some ⟨w.heap.size, 0, none⟩) 14 14) ∧ Below w.heap.size w w' ∧ Blk w' w.heap.size 9 (strs opsL) := by
  go_enter Tryd.func39, Tryd.ntmps39
  go_wp2_with fail
  go_ret
  exact ⟨rfl, (Below.refl _ _).alloc (Nat.le_refl _) _, Blk.mk (heap_alloc_new w _)⟩
theorem joinN_len : ∀ {l : List ByteArray}, (∀ s ∈ l, s.size ≤ 24) → (joinN l).length ≤ 25 * l.length
  | [], _ => by simp [joinN]
  | x :: l, h => by
    have h1 := h x List.mem_cons_self
    have h2 := joinN_len (l := l) (fun m hm => h m (List.mem_cons_of_mem _ hm))
    unfold joinN
    rw [List.length_append, List.length_cons, ba_len]
    split
    · simp; omega
    · rw [List.length_cons]; omega
theorem itoa_len {n : Int} (h : I64 n) : (Lib.itoa n).length ≤ 21 := by
  unfold I64 at h
  exact Lib.itoa_length_le n h.1 h.2
theorem opsL_size : ∀ q : Nat, (opsL.getD q ⟨#[]⟩).size ≤ 6 := by
  intro q
  by_cases h : q < 14
  · have : ∀ q : Fin 14, (opsL.getD q ⟨#[]⟩).size ≤ 6 := by decide
    exact this ⟨q, h⟩
  · rw [List.getD_eq_getElem?_getD, List.getElem?_eq_none (show opsL.length ≤ q by show 14 ≤ q; omega)]; decide
theorem aggsL_size : ∀ q : Nat, (aggsL.getD q ⟨#[]⟩).size ≤ 5 := by
  intro q
  by_cases h : q < 4
  · have : ∀ q : Fin 4, (aggsL.getD q ⟨#[]⟩).size ≤ 5 := by decide
    exact this ⟨q, h⟩
  · rw [List.getD_eq_getElem?_getD, List.getElem?_eq_none (show aggsL.length ≤ q by show 4 ≤ q; omega)]; decide
theorem printX_len : ∀ (d : Nat) (x : XE), goodX d x → (printX d x).length + 50 ≤ 500 * 2 ^ (d + 1)
  | 0, _, h => h.elim
  | d + 1, x, h => by
    obtain ⟨h1, h20, hn, h2, h17, h3⟩ := h
    have hp := two_pow' d
    unfold printX
    have hi := itoa_len hn
    split
    · omega
    · split
      · next hk =>
        obtain ⟨g1, g2⟩ := h2 hk
        have := joinM_len (l := x.ms) g2
        simp only [List.length_cons, List.length_append, List.length_nil]
        omega
      · split
        · next hk =>
          obtain ⟨g1, g2, a, e, g3⟩ := h17 hk
          have k1 := printX_len d a g3
          have k2 := joinN_len (l := x.ns) g2
          have k3 := aggsL_size (x.kd - 17).toNat
          rw [e]
          simp only [List.length_cons, List.length_append, List.length_nil, List.head?_cons, Option.map_some, Option.getD_some, ba_len]
          omega
        · next hk1 hk2 hk =>
          obtain ⟨a, b, e, g1, g2⟩ := h3 (by omega) (by omega)
          have k1 := printX_len d a g1
          have k2 := printX_len d b g2
          have k3 := opsL_size (x.kd - 3).toNat
          rw [e]
          simp only [List.length_cons, List.length_append, List.length_nil, List.head?_cons, Option.map_some, Option.getD_some, ba_len, List.getElem?_cons_succ, List.getElem?_cons_zero]
          omega
where
  two_pow' (d : Nat) : 2 ^ (d + 1 + 1) = 2 ^ (d + 1) + 2 ^ (d + 1) ∧ 2 ≤ 2 ^ (d + 1) := by
    have h1 : 2 ^ (d + 1 + 1) = 2 ^ (d + 1) * 2 := Nat.pow_succ ..
    have h2 : 2 ^ (d + 1) = 2 ^ d * 2 := Nat.pow_succ ..
    have h3 : 1 ≤ 2 ^ d := Nat.one_le_two_pow
    omega
def PrintSaid (d : Nat) : Prop := ∀ (x : XE) (w : World), okX d x w → goodX d x → Calls Tryd.prog 23 #[x.val] w fun e w' => e = .returned (.string ⟨(printX d x).toArray⟩) ∧ Below w.heap.size w w'
theorem pick_cat (a n : List UInt8) : (⟨a.toArray⟩ : ByteArray) ++ ⟨#[91]⟩ ++ ⟨n.toArray⟩ ++ ⟨#[93]⟩ = ⟨(a ++ ([91] ++ (n ++ [93]))).toArray⟩ := by
  apply ByteArray.ext; simp
theorem two_cat (a b : List UInt8) (o : ByteArray) : (⟨#[40]⟩ : ByteArray) ++ ⟨a.toArray⟩ ++ ⟨#[32]⟩ ++ o ++ ⟨#[32]⟩ ++ ⟨b.toArray⟩ ++ ⟨#[41]⟩ = ⟨(40 :: (a ++ (32 :: (o.data.toList ++ (32 :: (b ++ [41])))))).toArray⟩ := by
  apply ByteArray.ext; simp
theorem agg_cat (o : ByteArray) (n a : List UInt8) : (⟨(o.data.toList ++ ([32, 98, 121, 32, 40] ++ n)).toArray⟩ : ByteArray) ++ ⟨#[41, 32, 40]⟩ ++ ⟨a.toArray⟩ ++ ⟨#[41]⟩ = ⟨(o.data.toList ++ ([32, 98, 121, 32, 40] ++ (n ++ ([41, 32, 40] ++ (a ++ [41]))))).toArray⟩ := by
  apply ByteArray.ext; simp
theorem kid_cells0 {V : World} {ad : Addr} {u0 u1 u2 u3 u4 : Value} {r : List Value} (h : ∀ j u, (u0 :: u1 :: u2 :: u3 :: u4 :: r)[j]? = some u → V.cell? (ad.add j) = some u) :
    V.cell? ad = some u0 ∧ V.cell? ⟨ad.block, ad.off + 1, none⟩ = some u1 ∧ V.cell? ⟨ad.block, ad.off + 2, none⟩ = some u2 ∧ V.cell? ⟨ad.block, ad.off + 3, none⟩ = some u3 ∧ V.cell? ⟨ad.block, ad.off + 4, none⟩ = some u4 := by
  have h0 := h 0 _ rfl
  rw [add_zero'] at h0
  have hs : ∀ j, 0 < j → (⟨ad.block, ad.off + j, none⟩ : Addr) = ad.add j := fun j hj => by
    have := add_spelt ad 0 j hj
    rwa [add_zero', Nat.zero_add] at this
  exact ⟨h0, by rw [hs 1 (by omega)]; exact h 1 _ rfl, by rw [hs 2 (by omega)]; exact h 2 _ rfl, by rw [hs 3 (by omega)]; exact h 3 _ rfl, by rw [hs 4 (by omega)]; exact h 4 _ rfl⟩
theorem kid_cells5 {V : World} {ad : Addr} {a0 a1 a2 a3 a4 u0 u1 u2 u3 u4 : Value} (h : ∀ j u, [a0, a1, a2, a3, a4, u0, u1, u2, u3, u4][j]? = some u → V.cell? (ad.add j) = some u) :
    V.cell? ⟨ad.block, ad.off + 5, none⟩ = some u0 ∧ V.cell? ⟨ad.block, ad.off + 5 + 1, none⟩ = some u1 ∧ V.cell? ⟨ad.block, ad.off + 5 + 2, none⟩ = some u2 ∧ V.cell? ⟨ad.block, ad.off + 5 + 3, none⟩ = some u3 ∧ V.cell? ⟨ad.block, ad.off + 5 + 4, none⟩ = some u4 := by
  have hs : ∀ j, 0 < j → (⟨ad.block, ad.off + j, none⟩ : Addr) = ad.add j := fun j hj => by
    have := add_spelt ad 0 j hj
    rwa [add_zero', Nat.zero_add] at this
  exact ⟨by rw [hs 5 (by omega)]; exact h 5 _ rfl, by rw [Nat.add_assoc, hs _ (by omega)]; exact h 6 _ rfl, by rw [Nat.add_assoc, hs _ (by omega)]; exact h 7 _ rfl, by rw [Nat.add_assoc, hs _ (by omega)]; exact h 8 _ rfl, by rw [Nat.add_assoc, hs _ (by omega)]; exact h 9 _ rfl⟩
theorem printX_two {d : Nat} {x a b : XE} {o : Nat} (h1 : ¬ x.kd = 1) (h2 : ¬ x.kd = 2) (h3 : ¬ 17 ≤ x.kd) (hk : x.kids = [a, b]) (ho : (x.kd - 3).toNat = o) : printX (d + 1) x = 40 :: (printX d a ++ (32 :: ((opsL.getD o ⟨#[]⟩).data.toList ++ (32 :: (printX d b ++ [41]))))) := by
  rw [printX, if_neg h1, if_neg h2, if_neg h3, hk, ho]; rfl
theorem printX_one {d : Nat} {x a : XE} {o : Nat} (h1 : ¬ x.kd = 1) (h2 : ¬ x.kd = 2) (h3 : 17 ≤ x.kd) (hk : x.kids = [a]) (ho : (x.kd - 17).toNat = o) : printX (d + 1) x = (aggsL.getD o ⟨#[]⟩).data.toList ++ ([32, 98, 121, 32, 40] ++ (joinN x.ns ++ ([41, 32, 40] ++ (printX d a ++ [41])))) := by
  rw [printX, if_neg h1, if_neg h2, if_pos h3, hk, ho]; rfl
/-- Within Print: the expression in its box. -/
structure PrAt (w0 : World) (d b : Nat) (kd n : Int) (mv nv kv : Value) (ms : List Mtc) (ns : List ByteArray) (ks : List XE) (w : World) : Prop where
  box : Blk w b 38 [.int .i64 kd, .int .i64 n, mv, nv, kv]
  m : Slc w 3 mv ms.length (mtcs ms)
  n_ : Slc w 1 nv ns.length (strs ns)
  k : Slc w 5 kv ks.length (kcells ks)
  kids : ∀ q ∈ ks, okX d q w
  bel : Below w0.heap.size w0 w
theorem PrAt.below {w0 w w' : World} {d b : Nat} {kd n : Int} {mv nv kv : Value} {ms : List Mtc} {ns : List ByteArray} {ks : List XE} (h : PrAt w0 d b kd n mv nv kv ms ns ks w) (hb : Below w.heap.size w w') : PrAt w0 d b kd n mv nv kv ms ns ks w' :=
  ⟨h.box.below hb h.box.lt, h.m.below hb, h.n_.below hb, h.k.below hb, fun q hq => okX_below hb d q (h.kids q hq), h.bel.trans (hb.mono h.bel.size)⟩
set_option maxHeartbeats 8000000 in
theorem print_step (d : Nat) (hd : d ≤ 20) (IH : PrintSaid d) : PrintSaid (d + 1) := by
  intro x w hok hgood
  have hplen := printX_len (d + 1) x hgood
  have hpow : 2 ^ (d + 1 + 1) ≤ 2 ^ 22 := Nat.pow_le_pow_right (by omega) (by omega)
  obtain ⟨kd, n, mv, ms, nv, ns, kv, ks⟩ := x
  obtain ⟨⟨A1, c1, e1, hm1, hm2, hm3⟩, ⟨A2, c2, e2, hn1, hn2, hn3⟩, ⟨A3, c3, e3, hk1, hk2, hk3⟩, hkids⟩ := hok
  obtain ⟨g1, g20, gn, gm, ga, gt⟩ := hgood
  simp only [XE.mv, XE.nv, XE.kv, XE.ms, XE.ns, XE.kids, XE.kd, XE.n] at *
  subst e1; subst e2; subst e3
  have hP0 := Lib.hid (show PrAt w d w.heap.size kd n (.slice A1 ms.length c1) (.slice A2 ns.length c2) (.slice A3 ks.length c3) ms ns ks (w.alloc (.cells #[.int .i64 kd, .int .i64 n, .slice A1 ms.length c1, .slice A2 ns.length c2, .slice A3 ks.length c3] 38)) from by
    have hb := (Below.refl w.heap.size w).alloc (Nat.le_refl _) (.cells #[.int .i64 kd, .int .i64 n, .slice A1 ms.length c1, .slice A2 ns.length c2, .slice A3 ks.length c3] 38)
    exact ⟨Blk.mk (heap_alloc_new w _), Slc.below ⟨A1, c1, rfl, hm1, hm2, hm3⟩ hb, Slc.below ⟨A2, c2, rfl, hn1, hn2, hn3⟩ hb, Slc.below ⟨A3, c3, rfl, hk1, hk2, hk3⟩ hb, fun q hq => okX_below hb d q (hkids q hq), hb⟩)
  clear hm1 hm2 hm3 hn1 hn2 hn3 hk1 hk2 hk3 hkids
  obtain ⟨b, hb⟩ : ∃ b, w.heap.size = b := ⟨_, rfl⟩
  have HB := Lib.hid hb
  have HP := Lib.hid (show PrAt w d b kd n (.slice A1 ms.length c1) (.slice A2 ns.length c2) (.slice A3 ks.length c3) ms ns ks (w.alloc (.cells #[.int .i64 kd, .int .i64 n, .slice A1 ms.length c1, .slice A2 ns.length c2, .slice A3 ks.length c3] 38)) from hb ▸ hP0.out)
  clear hb hP0
  have HGM := Lib.hid gm
  have HGA := Lib.hid ga
  have HGT := Lib.hid gt
  have HLEN := Lib.hid hplen
  have HPOW := Lib.hid hpow
  clear gm ga gt hplen hpow
  obtain ⟨T, hT⟩ : ∃ T, (⟨(printX (d + 1) (.mk kd n (.slice A1 ms.length c1) ms (.slice A2 ns.length c2) ns (.slice A3 ks.length c3) ks)).toArray⟩ : ByteArray) = T := ⟨_, rfl⟩
  have HT := Lib.hid hT
  rw [hT]
  clear hT
  show Calls _ _ #[.agg #[.int .i64 kd, .int .i64 n, .slice A1 ms.length c1, .slice A2 ns.length c2, .slice A3 ks.length c3]] _ _
  go_enter Tryd.func23, Tryd.ntmps23
  go_upto_region 1 with fail
  rw [HB.out]
  generalize w.alloc (.cells #[.int .i64 kd, .int .i64 n, .slice A1 ms.length c1, .slice A2 ns.length c2, .slice A3 ks.length c3] 38) = W1 at *
  obtain ⟨x0, x1, x2, x3, x4⟩ := blk_cells5 HP.out.box
  by_cases h1 : kd = 1
  · have t1 : (kd == 1) = true := by rw [h1]; rfl
    have HE := Lib.hid (show (⟨(Lib.itoa n).toArray⟩ : ByteArray) = T by rw [← HT.out]; unfold printX; rw [if_pos (by exact h1)]; rfl)
    clear h1
    go_wp2_with fail
    (with_reducible refine (rnum_any n W1 gn).mono ?_); rintro e wq ⟨rfl, hbq⟩
    go_wp2_with fail
    go_ret
    exact ⟨by rw [← HE.out]; rfl, HP.out.bel.trans (hbq.mono HP.out.bel.size)⟩
  · have t1 : (kd == 1) = false := by rw [beq_eq_false_iff_ne]; exact h1
    by_cases h2 : kd = 2
    · have t2 : (kd == 2) = true := by rw [h2]; rfl
      obtain ⟨hm6, hmf⟩ := HGM.out h2
      have HE := Lib.hid (show (⟨(123 :: (joinM ms ++ [125])).toArray⟩ : ByteArray) ++ ⟨#[91]⟩ ++ ⟨(Lib.itoa n).toArray⟩ ++ ⟨#[93]⟩ = T by
        rw [← HT.out]; unfold printX
        rw [if_neg (by exact h1), if_pos (by exact h2), pick_cat]
        simp [XE.ms, XE.n])
      have HMT := Lib.hid (fun V (h : PrAt w d b kd n (.slice A1 ms.length c1) (.slice A2 ns.length c2) (.slice A3 ks.length c3) ms ns ks V) => rmatchers_any A1 ms.length c1 ms V h.m.sees hm6 hmf)
      have HNT := Lib.hid (fun V => rnum_any n V gn)
      have hs1 : (⟨(123 :: (joinM ms ++ [125])).toArray⟩ : ByteArray).size ≤ 600 := by
        have := joinM_len hmf
        show (123 :: (joinM ms ++ [125])).toArray.size ≤ 600
        simp; omega
      have hs2 : (⟨(Lib.itoa n).toArray⟩ : ByteArray).size ≤ 21 := by
        have := itoa_len gn
        show (Lib.itoa n).toArray.size ≤ 21
        simpa using this
      generalize (⟨(123 :: (joinM ms ++ [125])).toArray⟩ : ByteArray) = S1 at *
      generalize (⟨(Lib.itoa n).toArray⟩ : ByteArray) = S2 at *
      have l1 : ¬ (9223372036854775807 < S1.size + (⟨#[91]⟩ : ByteArray).size) := by show ¬ (9223372036854775807 < S1.size + 1); omega
      have l1' : ¬ (9223372036854775807 < S1.size + 1) := by omega
      have l2 : ¬ (9223372036854775807 < S1.size + 1 + S2.size) := by omega
      have l3 : ¬ (9223372036854775807 < S1.size + 1 + S2.size + 1) := by omega
      clear h1 h2 hm6 hmf HGM
      go_upto_region 4 with fail
      refine wp_region_facts (R := fun a b => Below a.heap.size a b) (G := (fun W => PrAt w d b kd n (.slice A1 ms.length c1) (.slice A2 ns.length c2) (.slice A3 ks.length c3) ms ns ks W)) (V := fun i' u' W => match i' with | 0 => u' = .pointer (some ⟨b, 2, none⟩) | 1 => u' = .slice A1 ms.length c1 | 2 => u' = .string S1 | 3 => u' = .string (S1 ++ ⟨#[91]⟩) | 4 => u' = .pointer (some ⟨b, 1, none⟩) | 5 => u' = .int .i64 n | 6 => u' = .string S2 | 7 => u' = .string (S1 ++ ⟨#[91]⟩ ++ S2) | 8 => u' = .string (S1 ++ ⟨#[91]⟩ ++ S2 ++ ⟨#[93]⟩) | 9 => u' = .string (S1 ++ ⟨#[91]⟩ ++ S2 ++ ⟨#[93]⟩) | _ => True) (by kernel_rfl) (fun w => Below.refl _ _) (fun a b c h1 h2 => h1.trans (h2.mono h1.size)) (by kernel_rfl) (by kernel_rfl) ?hG ⟨?o0, ?o1, ?o2, ?o3, ?o4, ?o5, ?o6, ?o7, ?o8, ?o9, trivial⟩ ?hend
      case o0 =>
        intro a w hfr hG hd
        refine ⟨fun hw => ?_, fun hw => absurd hw (by simp [Region.wanted])⟩
        have s1 : a.tmps.getD 1 undef = .pointer (some ⟨b, 0, none⟩) := hfr.at 1 (by kernel_rfl)
        refine op_yields (.pointer (some ⟨b, 2, none⟩)) ?_ ?_ ?_
        · simp only [execOp, resolve, List.map_toArray, List.map_cons, List.map_nil, Act.eval, s1]; simp [go_sem, -Array.getD_eq_getD_getElem?, s1]
        · exact Below.refl _ _
        · exact (fun _ _ => rfl)
      case o1 =>
        intro a w hfr hG hd
        obtain ⟨d0, _⟩ := hd
        refine ⟨fun hw => ?_, fun hw => absurd hw (by simp [Region.wanted])⟩
        have s17 : a.tmps.getD 17 undef = .pointer (some ⟨b, 2, none⟩) := (d0 rfl).now
        have z2 := hG.now.box.cell 2; simp only [List.getElem?_cons_zero, List.getElem?_cons_succ] at z2
        refine op_yields (.slice A1 ms.length c1) ?_ ?_ ?_
        · simp only [execOp, resolve, List.map_toArray, List.map_cons, List.map_nil, Act.eval, s17]; simp [go_sem, -Array.getD_eq_getD_getElem?, s17, z2]
        · exact Below.refl _ _
        · exact (fun _ _ => rfl)
      case o2 =>
        intro a w hfr hG hd
        obtain ⟨d0, _⟩ := hd
        refine ⟨fun hw => ?_, fun hw => absurd hw (by simp [Region.wanted])⟩
        have s18 : a.tmps.getD 18 undef = .slice A1 ms.length c1 := (d0 rfl).now
        refine op_calls2 ((HMT.out w hG.now).mono fun e' w' hh => ⟨_, hh.1, hh.2, (fun _ _ => rfl)⟩) ?_
        simp only [execOp, resolve, List.map_toArray, List.map_cons, List.map_nil, Act.eval, s18]; simp [go_sem, -Array.getD_eq_getD_getElem?, s18]
      case o3 =>
        intro a w hfr hG hd
        obtain ⟨d0, _⟩ := hd
        refine ⟨fun hw => ?_, fun hw => absurd hw (by simp [Region.wanted])⟩
        have s19 : a.tmps.getD 19 undef = .string S1 := (d0 rfl).now
        refine op_yields (.string (S1 ++ ⟨#[91]⟩)) ?_ ?_ ?_
        · simp only [execOp, resolve, List.map_toArray, List.map_cons, List.map_nil, Act.eval, s19]; simp [go_sem, -Array.getD_eq_getD_getElem?, s19, l1, l1']
        · exact Below.refl _ _
        · exact (fun _ _ => rfl)
      case o4 =>
        intro a w hfr hG hd
        refine ⟨fun hw => ?_, fun hw => absurd hw (by simp [Region.wanted])⟩
        have s1 : a.tmps.getD 1 undef = .pointer (some ⟨b, 0, none⟩) := hfr.at 1 (by kernel_rfl)
        refine op_yields (.pointer (some ⟨b, 1, none⟩)) ?_ ?_ ?_
        · simp only [execOp, resolve, List.map_toArray, List.map_cons, List.map_nil, Act.eval, s1]; simp [go_sem, -Array.getD_eq_getD_getElem?, s1]
        · exact Below.refl _ _
        · exact (fun _ _ => rfl)
      case o5 =>
        intro a w hfr hG hd
        obtain ⟨d0, _⟩ := hd
        refine ⟨fun hw => ?_, fun hw => absurd hw (by simp [Region.wanted])⟩
        have s21 : a.tmps.getD 21 undef = .pointer (some ⟨b, 1, none⟩) := (d0 rfl).now
        have z1 := hG.now.box.cell 1; simp only [List.getElem?_cons_zero, List.getElem?_cons_succ] at z1
        refine op_yields (.int .i64 n) ?_ ?_ ?_
        · simp only [execOp, resolve, List.map_toArray, List.map_cons, List.map_nil, Act.eval, s21]; simp [go_sem, -Array.getD_eq_getD_getElem?, s21, z1]
        · exact Below.refl _ _
        · exact (fun _ _ => rfl)
      case o6 =>
        intro a w hfr hG hd
        obtain ⟨d0, d1, _⟩ := hd
        refine ⟨fun hw => ?_, fun hw => absurd hw (by simp [Region.wanted])⟩
        have s22 : a.tmps.getD 22 undef = .int .i64 n := (d0 rfl).now
        refine op_calls2 ((HNT.out w).mono fun e' w' hh => ⟨_, hh.1, hh.2, (fun _ _ => rfl)⟩) ?_
        simp only [execOp, resolve, List.map_toArray, List.map_cons, List.map_nil, Act.eval, s22]; simp [go_sem, -Array.getD_eq_getD_getElem?, s22]
      case o7 =>
        intro a w hfr hG hd
        obtain ⟨d0, d1, _⟩ := hd
        refine ⟨fun hw => ?_, fun hw => absurd hw (by simp [Region.wanted])⟩
        have s20 : a.tmps.getD 20 undef = .string (S1 ++ ⟨#[91]⟩) := (d0 rfl).now
        have s23 : a.tmps.getD 23 undef = .string S2 := (d1 rfl).now
        refine op_yields (.string (S1 ++ ⟨#[91]⟩ ++ S2)) ?_ ?_ ?_
        · simp only [execOp, resolve, List.map_toArray, List.map_cons, List.map_nil, Act.eval, s20, s23]; simp [go_sem, -Array.getD_eq_getD_getElem?, s20, s23, l2]
        · exact Below.refl _ _
        · exact (fun _ _ => rfl)
      case o8 =>
        intro a w hfr hG hd
        obtain ⟨d0, _⟩ := hd
        refine ⟨fun hw => ?_, fun hw => absurd hw (by simp [Region.wanted])⟩
        have s24 : a.tmps.getD 24 undef = .string (S1 ++ ⟨#[91]⟩ ++ S2) := (d0 rfl).now
        refine op_yields (.string (S1 ++ ⟨#[91]⟩ ++ S2 ++ ⟨#[93]⟩)) ?_ ?_ ?_
        · simp only [execOp, resolve, List.map_toArray, List.map_cons, List.map_nil, Act.eval, s24]; simp [go_sem, -Array.getD_eq_getD_getElem?, s24, l3]
        · exact Below.refl _ _
        · exact (fun _ _ => rfl)
      case o9 =>
        intro a w hfr hG hd
        obtain ⟨d0, d1, d2, d3, d4, d5, d6, d7, d8, d9, d10, _⟩ := hd
        refine ⟨fun hw => ?_, fun hw => absurd hw (by simp [Region.wanted])⟩
        have s25 : a.tmps.getD 25 undef = .string (S1 ++ ⟨#[91]⟩ ++ S2 ++ ⟨#[93]⟩) := (d0 rfl).now
        refine op_yields (.string (S1 ++ ⟨#[91]⟩ ++ S2 ++ ⟨#[93]⟩)) ?_ ?_ ?_
        · simp only [execOp, resolve, List.map_toArray, List.map_cons, List.map_nil, Act.eval, s25]; simp [go_sem, -Array.getD_eq_getD_getElem?, s25]
        · exact Below.refl _ _
        · exact (fun _ _ => rfl)
      case hG => exact fun w' hb => HP.out.below ((Below.refl _ _).drew.trans (hb.mono (by simp)))
      case hend =>
        intro vs w' hG hv
        have key : vs 8 = .string (S1 ++ ⟨#[91]⟩ ++ S2 ++ ⟨#[93]⟩) ∧ vs 9 = .string (S1 ++ ⟨#[91]⟩ ++ S2 ++ ⟨#[93]⟩) := by
          obtain ⟨_, _, _, _, _, _, _, _, h8, h9, _⟩ := hv
          exact ⟨h8.now, h9.now⟩
        have HP2 := Lib.hid hG.now
        clear hv hG HP HMT HNT
        rw [HE.out] at key
        simp only [putAll, Act.put, key.1, key.2]
        clear key
        go_wp2_with fail
        refine bodyPost_ret (v := .string T) (by simp [results, Tryd.results23, go_sem]) rfl ?_
        exact ⟨rfl, HP2.out.bel⟩
    · have t2 : (kd == 2) = false := by rw [beq_eq_false_iff_ne]; exact h2
      by_cases h3 : 17 ≤ kd
      · obtain ⟨hn6, hns, qa, hks, hga⟩ := HGA.out h3
        have HNS := Lib.hid hns
        have hk1 : ks.length = 1 := by rw [hks]; rfl
        have HOA := Lib.hid (fun V (h : PrAt w d b kd n (.slice A1 ms.length c1) (.slice A2 ns.length c2) (.slice A3 ks.length c3) ms ns ks V) => IH qa V (h.kids qa (by rw [hks]; simp)) hga)
        obtain ⟨o, ho⟩ : ∃ o : Nat, (o : Int) = kd - 17 := ⟨(kd - 17).toNat, by omega⟩
        have ho4 : o < 4 := by omega
        have HOP := Lib.hid (show aggsL[o]? = some (aggsL.getD o ⟨#[]⟩) by rw [List.getD_eq_getElem?_getD, List.getElem?_eq_getElem (show o < aggsL.length from ho4)]; rfl)
        have hos := aggsL_size o
        have HE := Lib.hid (show (⟨((aggsL.getD o ⟨#[]⟩).data.toList ++ ([32, 98, 121, 32, 40] ++ joinN ns)).toArray⟩ : ByteArray) ++ ⟨#[41, 32, 40]⟩ ++ ⟨(printX d qa).toArray⟩ ++ ⟨#[41]⟩ = T by
          rw [← HT.out, agg_cat, printX_one (x := XE.mk kd n (.slice A1 ms.length c1) ms (.slice A2 ns.length c2) ns (.slice A3 ks.length c3) ks) (o := o) h1 h2 h3 hks (by show (kd - 17).toNat = o; omega)]; rfl)
        have hsa : (⟨(printX d qa).toArray⟩ : ByteArray).size ≤ 2097152000 := by
          have h1 := printX_len d qa hga
          have h2 : 2 ^ (d + 1) ≤ 2 ^ 21 := Nat.pow_le_pow_right (by omega) (by omega)
          show (printX d qa).toArray.size ≤ _
          rw [List.size_toArray]; omega
        obtain ⟨PA, hPA⟩ : ∃ P, (⟨(printX d qa).toArray⟩ : ByteArray) = P := ⟨_, rfl⟩
        rw [hPA] at HE hsa
        have HOA2 := Lib.hid (show ∀ V, PrAt w d b kd n (.slice A1 ms.length c1) (.slice A2 ns.length c2) (.slice A3 ks.length c3) ms ns ks V → Calls Tryd.prog 23 #[.agg #[.int .i64 qa.kd, .int .i64 qa.n, qa.mv, qa.nv, qa.kv]] V fun e w' => e = .returned (.string PA) ∧ Below V.heap.size V w' from by rw [← hPA]; exact HOA.out)
        obtain ⟨OP, hOP⟩ : ∃ P, aggsL.getD o ⟨#[]⟩ = P := ⟨_, rfl⟩
        rw [hOP] at HOP hos HE
        have HST := Lib.hid (show OP ++ ⟨#[32, 98, 121, 32, 40]⟩ = ⟨(OP.data.toList ++ ([32, 98, 121, 32, 40] ++ joinN (ns.take 0))).toArray⟩ by
          apply ByteArray.ext; simp [joinN])
        clear HOA hPA hOP HT hns
        have hkc : kcells ks = [.int .i64 qa.kd, .int .i64 qa.n, qa.mv, qa.nv, qa.kv] := by rw [hks]; rfl
        obtain ⟨ad, hA3⟩ : ∃ ad, A3 = some ad := by
          obtain ⟨ad, e, _, _⟩ := HP.out.k.sees.at_ (by omega)
          exact ⟨ad, e⟩
        subst hA3
        have HCL := Lib.hid (show ∀ V, PrAt w d b kd n (.slice A1 ms.length c1) (.slice A2 ns.length c2) (.slice (some ad) ks.length c3) ms ns ks V → ∀ j u, (kcells ks)[j]? = some u → V.cell? (ad.add j) = some u from fun V h => by
          obtain ⟨ad2, e, _, hc⟩ := h.k.sees.at_ (by omega)
          injection e with e; subst e
          exact hc)
        rw [hkc] at HCL
        have hw3 : IntKind.i64.wrap (kd - 17) = (o : Int) := by rw [IntKind.wrap_i64]; omega
        have o0 : (0 : Int) ≤ o := by omega
        have o14 : (o : Int) < 4 := by omega
        have kp0 : (0 : Int) < ks.length := by omega
        have hke : ¬ ks = [] := by rw [hks]; simp
        have hc3 := HP.out.n_.caps
        have l1 : ¬ (9223372036854775807 < OP.size + 5) := by omega
        have HH3 := Lib.hid h3
        clear hks hk1 hga hkc
        go_upto_region 6 with fail
        go_cut [3] from 30 to 36 (fun x3 wx => x3 = .string (OP ++ ⟨#[32, 98, 121, 32, 40]⟩) ∧ PrAt w d b kd n (.slice A1 ms.length c1) (.slice A2 ns.length c2) (.slice (some ad) ks.length c3) ms ns ks wx)
        case first =>
          refine wp_region_facts (R := fun a b => Below a.heap.size a b) (G := (fun W => PrAt w d b kd n (.slice A1 ms.length c1) (.slice A2 ns.length c2) (.slice (some ad) ks.length c3) ms ns ks W)) (V := fun i' u' W => match i' with | 0 => ∃ g, u' = .slice (some ⟨g, 0, none⟩) 4 4 ∧ Blk W g 9 (strs aggsL) | 1 => u' = .pointer (some ⟨b, 0, none⟩) | 2 => u' = .int .i64 kd | 3 => u' = .int .i64 o | 4 => ∃ g, u' = .pointer (some ⟨g, o, none⟩) ∧ Blk W g 9 (strs aggsL) | 5 => u' = .string OP | 6 => u' = .string (OP ++ ⟨#[32, 98, 121, 32, 40]⟩) | 7 => u' = .string (OP ++ ⟨#[32, 98, 121, 32, 40]⟩) | _ => True) (by kernel_rfl) (fun w => Below.refl _ _) (fun a b c h1 h2 => h1.trans (h2.mono h1.size)) (by kernel_rfl) (by kernel_rfl) ?hG ⟨?o0, ?o1, ?o2, ?o3, ?o4, ?o5, ?o6, ?o7, trivial⟩ ?hend
          case o0 =>
            intro a w hfr hG hd
            refine ⟨fun hw => ?_, fun hw => absurd hw (by simp [Region.wanted])⟩
            refine op_calls2 ((raggs_any w).mono fun e' w' hh => ⟨_, hh.1, hh.2.1, fun W hW => ⟨w.heap.size, rfl, hh.2.2.below hW hh.2.2.lt⟩⟩) ?_; simp only [execOp, resolve, List.map_toArray, List.map_cons, List.map_nil, Act.eval]; simp [go_sem]
          case o1 =>
            intro a w hfr hG hd
            refine ⟨fun hw => ?_, fun hw => absurd hw (by simp [Region.wanted])⟩
            have s1 : a.tmps.getD 1 undef = .pointer (some ⟨b, 0, none⟩) := hfr.at 1 (by kernel_rfl)
            refine op_yields (.pointer (some ⟨b, 0, none⟩)) ?_ ?_ ?_
            · simp only [execOp, resolve, List.map_toArray, List.map_cons, List.map_nil, Act.eval, s1]; simp [go_sem, -Array.getD_eq_getD_getElem?, s1]
            · exact Below.refl _ _
            · exact (fun _ _ => rfl)
          case o2 =>
            intro a w hfr hG hd
            obtain ⟨d0, _⟩ := hd
            refine ⟨fun hw => ?_, fun hw => absurd hw (by simp [Region.wanted])⟩
            have s31 : a.tmps.getD 31 undef = .pointer (some ⟨b, 0, none⟩) := (d0 rfl).now
            have z0 := hG.now.box.cell 0; simp only [List.getElem?_cons_zero, List.getElem?_cons_succ] at z0
            refine op_yields (.int .i64 kd) ?_ ?_ ?_
            · simp only [execOp, resolve, List.map_toArray, List.map_cons, List.map_nil, Act.eval, s31]; simp [go_sem, -Array.getD_eq_getD_getElem?, s31, z0]
            · exact Below.refl _ _
            · exact (fun _ _ => rfl)
          case o3 =>
            intro a w hfr hG hd
            obtain ⟨d0, _⟩ := hd
            refine ⟨fun hw => ?_, fun hw => absurd hw (by simp [Region.wanted])⟩
            have s32 : a.tmps.getD 32 undef = .int .i64 kd := (d0 rfl).now
            refine op_yields (.int .i64 o) ?_ ?_ ?_
            · simp only [execOp, resolve, List.map_toArray, List.map_cons, List.map_nil, Act.eval, s32]; simp [go_sem, -Array.getD_eq_getD_getElem?, s32, hw3]
            · exact Below.refl _ _
            · exact (fun _ _ => rfl)
          case o4 =>
            intro a w hfr hG hd
            obtain ⟨d0, d1, _⟩ := hd
            refine ⟨fun hw => ?_, fun hw => absurd hw (by simp [Region.wanted])⟩
            obtain ⟨g, s30, _⟩ := (d0 rfl).now
            have f30 : Hold (fun a b => Below a.heap.size a b) (fun W => Blk W g 9 (strs aggsL)) w := fun w2 h2 => by obtain ⟨_, e1, e2⟩ := d0 rfl w2 h2; have e3 := s30.symm.trans e1; simp only [Value.slice.injEq, Option.some.injEq, Addr.mk.injEq, Value.pointer.injEq, and_true, true_and] at e3; subst e3; exact e2
            have s30 : a.tmps.getD 30 undef = .slice (some ⟨g, 0, none⟩) 4 4 := s30
            have s33 : a.tmps.getD 33 undef = .int .i64 o := (d1 rfl).now
            refine op_yields (.pointer (some ⟨g, o, none⟩)) ?_ (Below.refl _ _) (fun W hW => ⟨g, rfl, f30 W hW⟩); simp only [execOp, resolve, List.map_toArray, List.map_cons, List.map_nil, Act.eval, s30, s33]; simp [go_sem, -Array.getD_eq_getD_getElem?, s30, s33, o0, o14]
          case o5 =>
            intro a w hfr hG hd
            obtain ⟨d0, _⟩ := hd
            refine ⟨fun hw => ?_, fun hw => absurd hw (by simp [Region.wanted])⟩
            obtain ⟨g, s34, _⟩ := (d0 rfl).now
            have f34 : Hold (fun a b => Below a.heap.size a b) (fun W => Blk W g 9 (strs aggsL)) w := fun w2 h2 => by obtain ⟨_, e1, e2⟩ := d0 rfl w2 h2; have e3 := s34.symm.trans e1; simp only [Value.slice.injEq, Option.some.injEq, Addr.mk.injEq, Value.pointer.injEq, and_true, true_and] at e3; subst e3; exact e2
            have s34 : a.tmps.getD 34 undef = .pointer (some ⟨g, o, none⟩) := s34
            have zo : w.cell? ⟨g, o, none⟩ = some (.string OP) := by rw [f34.now.cell o]; unfold strs; rw [List.getElem?_map, HOP.out]; rfl
            refine op_yields (.string OP) ?_ ?_ ?_
            · simp only [execOp, resolve, List.map_toArray, List.map_cons, List.map_nil, Act.eval, s34]; simp [go_sem, -Array.getD_eq_getD_getElem?, s34, zo]
            · exact Below.refl _ _
            · exact (fun _ _ => rfl)
          case o6 =>
            intro a w hfr hG hd
            obtain ⟨d0, _⟩ := hd
            refine ⟨fun hw => ?_, fun hw => absurd hw (by simp [Region.wanted])⟩
            have s35 : a.tmps.getD 35 undef = .string OP := (d0 rfl).now
            refine op_yields (.string (OP ++ ⟨#[32, 98, 121, 32, 40]⟩)) ?_ ?_ ?_
            · simp only [execOp, resolve, List.map_toArray, List.map_cons, List.map_nil, Act.eval, s35]; simp [go_sem, -Array.getD_eq_getD_getElem?, s35, l1]
            · exact Below.refl _ _
            · exact (fun _ _ => rfl)
          case o7 =>
            intro a w hfr hG hd
            obtain ⟨d0, d1, d2, d3, d4, d5, d6, d7, d8, _⟩ := hd
            refine ⟨fun hw => ?_, fun hw => absurd hw (by simp [Region.wanted])⟩
            have s36 : a.tmps.getD 36 undef = .string (OP ++ ⟨#[32, 98, 121, 32, 40]⟩) := (d0 rfl).now
            refine op_yields (.string (OP ++ ⟨#[32, 98, 121, 32, 40]⟩)) ?_ ?_ ?_
            · simp only [execOp, resolve, List.map_toArray, List.map_cons, List.map_nil, Act.eval, s36]; simp [go_sem, -Array.getD_eq_getD_getElem?, s36]
            · exact Below.refl _ _
            · exact (fun _ _ => rfl)
          case hG => exact fun w' hb => HP.out.below ((Below.refl _ _).drew.trans (hb.mono (by simp)))
          case hend =>
            intro vs w' hG hv
            have key : vs 6 = .string (OP ++ ⟨#[32, 98, 121, 32, 40]⟩) ∧ vs 7 = .string (OP ++ ⟨#[32, 98, 121, 32, 40]⟩) := by
              obtain ⟨_, _, _, _, _, _, h6, h7, _⟩ := hv
              exact ⟨h6.now, h7.now⟩
            have HP2 := Lib.hid hG.now
            clear hv hG HP HOA2 HCL
            simp only [putAll, Act.put, key.1, key.2]
            clear key
            go_simp
            go_wp2_with fail
            go_meet
            exact ⟨rfl, HP2.out⟩
        case rest =>
          obtain ⟨rfl, hat⟩ := hcut
          have HP2 := Lib.hid hat
          clear hat HP x0 x1 x2 x3 x4 l1
          rw [HST.out]
          obtain ⟨S0, hS0⟩ : ∃ S, (⟨(OP.data.toList ++ ([32, 98, 121, 32, 40] ++ joinN (ns.take 0))).toArray⟩ : ByteArray) = S := ⟨_, rfl⟩
          have HS0 := Lib.hid hS0.symm
          rw [hS0]
          clear hS0 HST
          have z3 := HP2.out.box.cell 3
          simp only [List.getElem?_cons_zero, List.getElem?_cons_succ] at z3
          go_wp2_with fail
          go_loopg [3, 40] ns.length (fun g x3 x40 wr => ∃ (k : Nat) (S : ByteArray), k + g = ns.length ∧ x40 = .int .i64 k ∧ x3 = .string S ∧ Hid (S = ⟨(OP.data.toList ++ ([32, 98, 121, 32, 40] ++ joinN (ns.take k))).toArray⟩) ∧ PrAt w d b kd n (.slice A1 ms.length c1) (.slice A2 ns.length c2) (.slice (some ad) ks.length c3) ms ns ks wr)
          case atStart => exact ⟨0, S0, by omega, rfl, rfl, HS0, HP2.out⟩
          case round =>
            obtain ⟨k, S, hkg, rfl, rfl, HS, hat⟩ := hrel
            have HM := Lib.hid hat
            clear hat HP2 HS0 z3
            have hsz : S.size ≤ 200 := by
              have h2 := HS.out
              have h3 := joinN_len (l := ns.take k) (fun m hm => HNS.out m (List.mem_of_mem_take hm))
              rw [List.length_take] at h3
              have h4 : S.size = OP.size + (5 + (joinN (ns.take k)).length) := by
                rw [h2]; show (OP.data.toList ++ ([32, 98, 121, 32, 40] ++ joinN (ns.take k))).toArray.size = _
                rw [List.size_toArray, List.length_append, List.length_append, ba_len]; rfl
              omega
            cases gk with
            | zero =>
              have hk : ¬ (k : Int) < ns.length := by omega
              have HSE := Lib.hid (show S ++ ⟨#[41, 32, 40]⟩ ++ PA ++ ⟨#[41]⟩ = T by rw [HS.out, List.take_of_length_le (by omega)]; exact HE.out)
              obtain ⟨x0, x1, x2, x3, x4⟩ := blk_cells5 HM.out.box
              obtain ⟨z0, z1, z2, z3, z4⟩ := kid_cells0 (HCL.out wr HM.out)
              have HCA := Lib.hid (HOA2.out wr HM.out)
              have l1 : ¬ (9223372036854775807 < S.size + 3) := by omega
              have l2 : ¬ (9223372036854775807 < S.size + 3 + PA.size) := by omega
              have l3 : ¬ (9223372036854775807 < S.size + 3 + PA.size + 1) := by omega
              go_wp2_with fail
              (with_reducible refine HCA.out.mono ?_); rintro e wq ⟨rfl, hbq⟩
              go_wp2_with fail
              go_ret
              exact ⟨by rw [← HSE.out]; rfl, HM.out.bel.trans (hbq.mono HM.out.bel.size)⟩
            | succ g =>
              have hlt : k < ns.length := by omega
              obtain ⟨au, hkl, hA, e0⟩ := HM.out.n_.sees.str hlt
              have hf := HNS.out _ (List.getElem_mem hkl)
              have HSN := Lib.hid (show joinN (ns.take (k + 1)) = joinN (ns.take k) ++ (if (ns.take k).isEmpty then ns[k].data.toList else 44 :: ns[k].data.toList) by rw [List.take_succ_eq_append_getElem hkl]; exact joinN_snoc _ _)
              generalize ns[k] = nm at *
              subst hA
              obtain ⟨p, hpd⟩ : ∃ p : Bool, decide (0 < k) = p := ⟨_, rfl⟩
              go_upto_if 46 with fail
              have HPD := Lib.hid hpd
              clear hpd
              go_cut [3] from 47 to 48 (fun x3 wx => ∃ S2 : ByteArray, x3 = .string S2 ∧ Hid (S2 = ⟨(OP.data.toList ++ ([32, 98, 121, 32, 40] ++ (joinN (ns.take k) ++ (if (ns.take k).isEmpty then [] else [44])))).toArray⟩) ∧ S2.size ≤ 201 ∧ wx = wr)
              case first =>
                cases p with
                | false =>
                  have HEM := Lib.hid (show (ns.take k).isEmpty = true by rw [show k = 0 by have := of_decide_eq_false HPD.out; omega]; rfl)
                  go_wp2_with fail
                  go_meet
                  exact ⟨S, rfl, Lib.hid (by rw [HS.out, HEM.out]; simp), by omega, rfl⟩
                | true =>
                  have HEM := Lib.hid (show (ns.take k).isEmpty = false by
                    have hk0 := of_decide_eq_true HPD.out
                    cases ns with
                    | nil => exact absurd hkl (by simp)
                    | cons y l =>
                      cases k with
                      | zero => exact absurd hk0 (by omega)
                      | succ k => rfl)
                  have HS2 := Lib.hid (show S ++ ⟨#[44]⟩ = ⟨(OP.data.toList ++ ([32, 98, 121, 32, 40] ++ (joinN (ns.take k) ++ (if (ns.take k).isEmpty then [] else [44])))).toArray⟩ by
                    rw [HEM.out, HS.out]; apply ByteArray.ext; simp)
                  have hs2 : (S ++ (⟨#[44]⟩ : ByteArray)).size ≤ 201 := by rw [ByteArray.size_append]; show S.size + 1 ≤ 201; omega
                  have HS2S := Lib.hid hs2
                  clear hs2
                  go_wp2_with fail
                  go_meet
                  exact ⟨_, rfl, Lib.hid HS2.out, HS2S.out, rfl⟩
              case rest =>
                obtain ⟨S2, rfl, HS2, hs2, hwc⟩ := hcut
                subst hwc
                have HS3 := Lib.hid (show S2 ++ nm = ⟨(OP.data.toList ++ ([32, 98, 121, 32, 40] ++ joinN (ns.take (k + 1)))).toArray⟩ by
                  rw [HSN.out, HS2.out]; apply ByteArray.ext; cases (ns.take k).isEmpty <;> simp)
                go_wp2_with fail
                go_roundg g
                case measure => omega
                case rel => exact ⟨k + 1, _, by omega, by go_num, rfl, Lib.hid HS3.out, HM.out⟩
      · obtain ⟨qa, qb, hks, hga, hgb⟩ := HGT.out (by omega) (by omega)
        have hk2 : ks.length = 2 := by rw [hks]; rfl
        have HOA := Lib.hid (fun V (h : PrAt w d b kd n (.slice A1 ms.length c1) (.slice A2 ns.length c2) (.slice A3 ks.length c3) ms ns ks V) => IH qa V (h.kids qa (by rw [hks]; simp)) hga)
        have HOB := Lib.hid (fun V (h : PrAt w d b kd n (.slice A1 ms.length c1) (.slice A2 ns.length c2) (.slice A3 ks.length c3) ms ns ks V) => IH qb V (h.kids qb (by rw [hks]; simp)) hgb)
        have hla := printX_len d qa hga
        have hlb := printX_len d qb hgb
        have HLL := Lib.hid (And.intro hla hlb)
        clear hla hlb
        obtain ⟨o, ho⟩ : ∃ o : Nat, (o : Int) = kd - 3 := ⟨(kd - 3).toNat, by omega⟩
        have ho14 : o < 14 := by omega
        have HOP := Lib.hid (show opsL[o]? = some (opsL.getD o ⟨#[]⟩) by rw [List.getD_eq_getElem?_getD, List.getElem?_eq_getElem (show o < opsL.length from ho14)]; rfl)
        have hos := opsL_size o
        have HE := Lib.hid (show (⟨#[40]⟩ : ByteArray) ++ ⟨(printX d qa).toArray⟩ ++ ⟨#[32]⟩ ++ opsL.getD o ⟨#[]⟩ ++ ⟨#[32]⟩ ++ ⟨(printX d qb).toArray⟩ ++ ⟨#[41]⟩ = T by
          rw [← HT.out, two_cat, printX_two (x := XE.mk kd n (.slice A1 ms.length c1) ms (.slice A2 ns.length c2) ns (.slice A3 ks.length c3) ks) (o := o) h1 h2 h3 hks (by show (kd - 3).toNat = o; omega)])
        have hsa : (⟨(printX d qa).toArray⟩ : ByteArray).size ≤ 2097152000 := by
          have h1 := HLL.out.1
          have h2 : 2 ^ (d + 1) ≤ 2 ^ 21 := Nat.pow_le_pow_right (by omega) (by omega)
          show (printX d qa).toArray.size ≤ _
          rw [List.size_toArray]; omega
        have hsb : (⟨(printX d qb).toArray⟩ : ByteArray).size ≤ 2097152000 := by
          have h1 := HLL.out.2
          have h2 : 2 ^ (d + 1) ≤ 2 ^ 21 := Nat.pow_le_pow_right (by omega) (by omega)
          show (printX d qb).toArray.size ≤ _
          rw [List.size_toArray]; omega
        obtain ⟨PA, hPA⟩ : ∃ P, (⟨(printX d qa).toArray⟩ : ByteArray) = P := ⟨_, rfl⟩
        obtain ⟨PB, hPB⟩ : ∃ P, (⟨(printX d qb).toArray⟩ : ByteArray) = P := ⟨_, rfl⟩
        rw [hPA] at HE hsa
        rw [hPB] at HE hsb
        have HOA2 := Lib.hid (show ∀ V, PrAt w d b kd n (.slice A1 ms.length c1) (.slice A2 ns.length c2) (.slice A3 ks.length c3) ms ns ks V → Calls Tryd.prog 23 #[.agg #[.int .i64 qa.kd, .int .i64 qa.n, qa.mv, qa.nv, qa.kv]] V fun e w' => e = .returned (.string PA) ∧ Below V.heap.size V w' from by rw [← hPA]; exact HOA.out)
        have HOB2 := Lib.hid (show ∀ V, PrAt w d b kd n (.slice A1 ms.length c1) (.slice A2 ns.length c2) (.slice A3 ks.length c3) ms ns ks V → Calls Tryd.prog 23 #[.agg #[.int .i64 qb.kd, .int .i64 qb.n, qb.mv, qb.nv, qb.kv]] V fun e w' => e = .returned (.string PB) ∧ Below V.heap.size V w' from by rw [← hPB]; exact HOB.out)
        generalize opsL.getD o ⟨#[]⟩ = OP at *
        clear HOA HOB hPA hPB HLL HT
        have hkc : kcells ks = [.int .i64 qa.kd, .int .i64 qa.n, qa.mv, qa.nv, qa.kv, .int .i64 qb.kd, .int .i64 qb.n, qb.mv, qb.nv, qb.kv] := by rw [hks]; rfl
        obtain ⟨ad, hA3⟩ : ∃ ad, A3 = some ad := by
          obtain ⟨ad, e, _, _⟩ := HP.out.k.sees.at_ (by omega)
          exact ⟨ad, e⟩
        subst hA3
        have HCL := Lib.hid (show ∀ V, PrAt w d b kd n (.slice A1 ms.length c1) (.slice A2 ns.length c2) (.slice (some ad) ks.length c3) ms ns ks V → ∀ j u, (kcells ks)[j]? = some u → V.cell? (ad.add j) = some u from fun V h => by
          obtain ⟨ad2, e, _, hc⟩ := h.k.sees.at_ (by omega)
          injection e with e; subst e
          exact hc)
        rw [hkc] at HCL
        have HK2 := Lib.hid hk2
        have h34 : (kd : Int) - 3 = (o : Int) := by omega
        have hw3 : IntKind.i64.wrap (kd - 3) = (o : Int) := by rw [IntKind.wrap_i64]; omega
        have o0 : (0 : Int) ≤ o := by omega
        have o14 : (o : Int) < 14 := by omega
        have hc3 := HP.out.k.caps
        have k2 : (2 : Int) ≤ ks.length := by omega
        have kp0 : (0 : Int) < ks.length := by omega
        have kp1 : (1 : Int) < ks.length := by omega
        have hke : ¬ ks = [] := by rw [hks]; simp
        have l1 : ¬ (9223372036854775807 < 1 + PA.size) := by omega
        have l2 : ¬ (9223372036854775807 < 1 + PA.size + 1) := by omega
        have l3 : ¬ (9223372036854775807 < 1 + PA.size + 1 + OP.size) := by omega
        have l4 : ¬ (9223372036854775807 < 1 + PA.size + 1 + OP.size + 1) := by omega
        have l5 : ¬ (9223372036854775807 < 1 + PA.size + 1 + OP.size + 1 + PB.size) := by omega
        have l6 : ¬ (9223372036854775807 < 1 + PA.size + 1 + OP.size + 1 + PB.size + 1) := by omega
        have hng : ¬ (17 : Int) ≤ kd := h3
        go_upto_region 15 with fail
        refine wp_region_facts (R := fun a b => Below a.heap.size a b) (G := (fun W => PrAt w d b kd n (.slice A1 ms.length c1) (.slice A2 ns.length c2) (.slice (some ad) ks.length c3) ms ns ks W)) (V := fun i' u' W => match i' with | 0 => u' = .pointer (some ⟨b, 4, none⟩) | 1 => u' = .slice (some ad) ks.length c3 | 2 => u' = .pointer (some ad) | 3 => u' = .agg #[.int .i64 qa.kd, .int .i64 qa.n, qa.mv, qa.nv, qa.kv] | 4 => u' = .string PA | 5 => u' = .string (⟨#[40]⟩ ++ PA) | 6 => u' = .string (⟨#[40]⟩ ++ PA ++ ⟨#[32]⟩) | 7 => ∃ g, u' = .slice (some ⟨g, 0, none⟩) 14 14 ∧ Blk W g 9 (strs opsL) | 8 => u' = .pointer (some ⟨b, 0, none⟩) | 9 => u' = .int .i64 kd | 10 => u' = .int .i64 o | 11 => ∃ g, u' = .pointer (some ⟨g, o, none⟩) ∧ Blk W g 9 (strs opsL) | 12 => u' = .string OP | 13 => u' = .string (⟨#[40]⟩ ++ PA ++ ⟨#[32]⟩ ++ OP) | 14 => u' = .string (⟨#[40]⟩ ++ PA ++ ⟨#[32]⟩ ++ OP ++ ⟨#[32]⟩) | 15 => u' = .pointer (some ⟨b, 4, none⟩) | 16 => u' = .slice (some ad) ks.length c3 | 17 => u' = .pointer (some (ad.add 5)) | 18 => u' = .agg #[.int .i64 qb.kd, .int .i64 qb.n, qb.mv, qb.nv, qb.kv] | 19 => u' = .string PB | 20 => u' = .string (⟨#[40]⟩ ++ PA ++ ⟨#[32]⟩ ++ OP ++ ⟨#[32]⟩ ++ PB) | 21 => u' = .string (⟨#[40]⟩ ++ PA ++ ⟨#[32]⟩ ++ OP ++ ⟨#[32]⟩ ++ PB ++ ⟨#[41]⟩) | 22 => u' = .string (⟨#[40]⟩ ++ PA ++ ⟨#[32]⟩ ++ OP ++ ⟨#[32]⟩ ++ PB ++ ⟨#[41]⟩) | _ => True) (by kernel_rfl) (fun w => Below.refl _ _) (fun a b c h1 h2 => h1.trans (h2.mono h1.size)) (by kernel_rfl) (by kernel_rfl) ?hG ⟨?o0, ?o1, ?o2, ?o3, ?o4, ?o5, ?o6, ?o7, ?o8, ?o9, ?o10, ?o11, ?o12, ?o13, ?o14, ?o15, ?o16, ?o17, ?o18, ?o19, ?o20, ?o21, ?o22, trivial⟩ ?hend
        case o0 =>
          intro a w hfr hG hd
          refine ⟨fun hw => ?_, fun hw => absurd hw (by simp [Region.wanted])⟩
          have s1 : a.tmps.getD 1 undef = .pointer (some ⟨b, 0, none⟩) := hfr.at 1 (by kernel_rfl)
          refine op_yields (.pointer (some ⟨b, 4, none⟩)) ?_ ?_ ?_
          · simp only [execOp, resolve, List.map_toArray, List.map_cons, List.map_nil, Act.eval, s1]; simp [go_sem, -Array.getD_eq_getD_getElem?, s1]
          · exact Below.refl _ _
          · exact (fun _ _ => rfl)
        case o1 =>
          intro a w hfr hG hd
          obtain ⟨d0, _⟩ := hd
          refine ⟨fun hw => ?_, fun hw => absurd hw (by simp [Region.wanted])⟩
          have s62 : a.tmps.getD 62 undef = .pointer (some ⟨b, 4, none⟩) := (d0 rfl).now
          have z4 := hG.now.box.cell 4; simp only [List.getElem?_cons_zero, List.getElem?_cons_succ] at z4
          refine op_yields (.slice (some ad) ks.length c3) ?_ ?_ ?_
          · simp only [execOp, resolve, List.map_toArray, List.map_cons, List.map_nil, Act.eval, s62]; simp [go_sem, -Array.getD_eq_getD_getElem?, s62, z4]
          · exact Below.refl _ _
          · exact (fun _ _ => rfl)
        case o2 =>
          intro a w hfr hG hd
          obtain ⟨d0, _⟩ := hd
          refine ⟨fun hw => ?_, fun hw => absurd hw (by simp [Region.wanted])⟩
          have s63 : a.tmps.getD 63 undef = .slice (some ad) ks.length c3 := (d0 rfl).now
          refine op_yields (.pointer (some ad)) ?_ ?_ ?_
          · simp only [execOp, resolve, List.map_toArray, List.map_cons, List.map_nil, Act.eval, s63]; simp [go_sem, -Array.getD_eq_getD_getElem?, s63, kp0, hke]
          · exact Below.refl _ _
          · exact (fun _ _ => rfl)
        case o3 =>
          intro a w hfr hG hd
          obtain ⟨d0, _⟩ := hd
          refine ⟨fun hw => ?_, fun hw => absurd hw (by simp [Region.wanted])⟩
          have s64 : a.tmps.getD 64 undef = .pointer (some ad) := (d0 rfl).now
          obtain ⟨z0, z1, z2, z3, z4⟩ := kid_cells0 (HCL.out w hG.now)
          refine op_yields (.agg #[.int .i64 qa.kd, .int .i64 qa.n, qa.mv, qa.nv, qa.kv]) ?_ ?_ ?_
          · simp only [execOp, resolve, List.map_toArray, List.map_cons, List.map_nil, Act.eval, s64]; simp [go_sem, -Array.getD_eq_getD_getElem?, s64, z0, z1, z2, z3, z4]
          · exact Below.refl _ _
          · exact (fun _ _ => rfl)
        case o4 =>
          intro a w hfr hG hd
          obtain ⟨d0, _⟩ := hd
          refine ⟨fun hw => ?_, fun hw => absurd hw (by simp [Region.wanted])⟩
          have s65 : a.tmps.getD 65 undef = .agg #[.int .i64 qa.kd, .int .i64 qa.n, qa.mv, qa.nv, qa.kv] := (d0 rfl).now
          refine op_calls2 ((HOA2.out w hG.now).mono fun e' w' hh => ⟨_, hh.1, hh.2, (fun _ _ => rfl)⟩) ?_
          simp only [execOp, resolve, List.map_toArray, List.map_cons, List.map_nil, Act.eval, s65]; simp [go_sem, -Array.getD_eq_getD_getElem?, s65]
        case o5 =>
          intro a w hfr hG hd
          obtain ⟨d0, _⟩ := hd
          refine ⟨fun hw => ?_, fun hw => absurd hw (by simp [Region.wanted])⟩
          have s66 : a.tmps.getD 66 undef = .string PA := (d0 rfl).now
          refine op_yields (.string (⟨#[40]⟩ ++ PA)) ?_ ?_ ?_
          · simp only [execOp, resolve, List.map_toArray, List.map_cons, List.map_nil, Act.eval, s66]; simp [go_sem, -Array.getD_eq_getD_getElem?, s66, l1]
          · exact Below.refl _ _
          · exact (fun _ _ => rfl)
        case o6 =>
          intro a w hfr hG hd
          obtain ⟨d0, _⟩ := hd
          refine ⟨fun hw => ?_, fun hw => absurd hw (by simp [Region.wanted])⟩
          have s67 : a.tmps.getD 67 undef = .string (⟨#[40]⟩ ++ PA) := (d0 rfl).now
          refine op_yields (.string (⟨#[40]⟩ ++ PA ++ ⟨#[32]⟩)) ?_ ?_ ?_
          · simp only [execOp, resolve, List.map_toArray, List.map_cons, List.map_nil, Act.eval, s67]; simp [go_sem, -Array.getD_eq_getD_getElem?, s67, l2]
          · exact Below.refl _ _
          · exact (fun _ _ => rfl)
        case o7 =>
          intro a w hfr hG hd
          obtain ⟨d0, _⟩ := hd
          refine ⟨fun hw => ?_, fun hw => absurd hw (by simp [Region.wanted])⟩
          refine op_calls2 ((rops_any w).mono fun e' w' hh => ⟨_, hh.1, hh.2.1, fun W hW => ⟨w.heap.size, rfl, hh.2.2.below hW hh.2.2.lt⟩⟩) ?_; simp only [execOp, resolve, List.map_toArray, List.map_cons, List.map_nil, Act.eval]; simp [go_sem]
        case o8 =>
          intro a w hfr hG hd
          refine ⟨fun hw => ?_, fun hw => absurd hw (by simp [Region.wanted])⟩
          have s1 : a.tmps.getD 1 undef = .pointer (some ⟨b, 0, none⟩) := hfr.at 1 (by kernel_rfl)
          refine op_yields (.pointer (some ⟨b, 0, none⟩)) ?_ ?_ ?_
          · simp only [execOp, resolve, List.map_toArray, List.map_cons, List.map_nil, Act.eval, s1]; simp [go_sem, -Array.getD_eq_getD_getElem?, s1]
          · exact Below.refl _ _
          · exact (fun _ _ => rfl)
        case o9 =>
          intro a w hfr hG hd
          obtain ⟨d0, _⟩ := hd
          refine ⟨fun hw => ?_, fun hw => absurd hw (by simp [Region.wanted])⟩
          have s70 : a.tmps.getD 70 undef = .pointer (some ⟨b, 0, none⟩) := (d0 rfl).now
          have z0 := hG.now.box.cell 0; simp only [List.getElem?_cons_zero, List.getElem?_cons_succ] at z0
          refine op_yields (.int .i64 kd) ?_ ?_ ?_
          · simp only [execOp, resolve, List.map_toArray, List.map_cons, List.map_nil, Act.eval, s70]; simp [go_sem, -Array.getD_eq_getD_getElem?, s70, z0]
          · exact Below.refl _ _
          · exact (fun _ _ => rfl)
        case o10 =>
          intro a w hfr hG hd
          obtain ⟨d0, _⟩ := hd
          refine ⟨fun hw => ?_, fun hw => absurd hw (by simp [Region.wanted])⟩
          have s71 : a.tmps.getD 71 undef = .int .i64 kd := (d0 rfl).now
          refine op_yields (.int .i64 o) ?_ ?_ ?_
          · simp only [execOp, resolve, List.map_toArray, List.map_cons, List.map_nil, Act.eval, s71]; simp [go_sem, -Array.getD_eq_getD_getElem?, s71, hw3]
          · exact Below.refl _ _
          · exact (fun _ _ => rfl)
        case o11 =>
          intro a w hfr hG hd
          obtain ⟨d0, d1, _⟩ := hd
          refine ⟨fun hw => ?_, fun hw => absurd hw (by simp [Region.wanted])⟩
          obtain ⟨g, s69, _⟩ := (d0 rfl).now
          have f69 : Hold (fun a b => Below a.heap.size a b) (fun W => Blk W g 9 (strs opsL)) w := fun w2 h2 => by obtain ⟨_, e1, e2⟩ := d0 rfl w2 h2; have e3 := s69.symm.trans e1; simp only [Value.slice.injEq, Option.some.injEq, Addr.mk.injEq, Value.pointer.injEq, and_true, true_and] at e3; subst e3; exact e2
          have s69 : a.tmps.getD 69 undef = .slice (some ⟨g, 0, none⟩) 14 14 := s69
          have s72 : a.tmps.getD 72 undef = .int .i64 o := (d1 rfl).now
          refine op_yields (.pointer (some ⟨g, o, none⟩)) ?_ (Below.refl _ _) (fun W hW => ⟨g, rfl, f69 W hW⟩); simp only [execOp, resolve, List.map_toArray, List.map_cons, List.map_nil, Act.eval, s69, s72]; simp [go_sem, -Array.getD_eq_getD_getElem?, s69, s72, o0, o14]
        case o12 =>
          intro a w hfr hG hd
          obtain ⟨d0, _⟩ := hd
          refine ⟨fun hw => ?_, fun hw => absurd hw (by simp [Region.wanted])⟩
          obtain ⟨g, s73, _⟩ := (d0 rfl).now
          have f73 : Hold (fun a b => Below a.heap.size a b) (fun W => Blk W g 9 (strs opsL)) w := fun w2 h2 => by obtain ⟨_, e1, e2⟩ := d0 rfl w2 h2; have e3 := s73.symm.trans e1; simp only [Value.slice.injEq, Option.some.injEq, Addr.mk.injEq, Value.pointer.injEq, and_true, true_and] at e3; subst e3; exact e2
          have s73 : a.tmps.getD 73 undef = .pointer (some ⟨g, o, none⟩) := s73
          have zo : w.cell? ⟨g, o, none⟩ = some (.string OP) := by rw [f73.now.cell o]; unfold strs; rw [List.getElem?_map, HOP.out]; rfl
          refine op_yields (.string OP) ?_ ?_ ?_
          · simp only [execOp, resolve, List.map_toArray, List.map_cons, List.map_nil, Act.eval, s73]; simp [go_sem, -Array.getD_eq_getD_getElem?, s73, zo]
          · exact Below.refl _ _
          · exact (fun _ _ => rfl)
        case o13 =>
          intro a w hfr hG hd
          obtain ⟨d0, d1, _⟩ := hd
          refine ⟨fun hw => ?_, fun hw => absurd hw (by simp [Region.wanted])⟩
          have s68 : a.tmps.getD 68 undef = .string (⟨#[40]⟩ ++ PA ++ ⟨#[32]⟩) := (d0 rfl).now
          have s74 : a.tmps.getD 74 undef = .string OP := (d1 rfl).now
          refine op_yields (.string (⟨#[40]⟩ ++ PA ++ ⟨#[32]⟩ ++ OP)) ?_ ?_ ?_
          · simp only [execOp, resolve, List.map_toArray, List.map_cons, List.map_nil, Act.eval, s68, s74]; simp [go_sem, -Array.getD_eq_getD_getElem?, s68, s74, l3]
          · exact Below.refl _ _
          · exact (fun _ _ => rfl)
        case o14 =>
          intro a w hfr hG hd
          obtain ⟨d0, _⟩ := hd
          refine ⟨fun hw => ?_, fun hw => absurd hw (by simp [Region.wanted])⟩
          have s75 : a.tmps.getD 75 undef = .string (⟨#[40]⟩ ++ PA ++ ⟨#[32]⟩ ++ OP) := (d0 rfl).now
          refine op_yields (.string (⟨#[40]⟩ ++ PA ++ ⟨#[32]⟩ ++ OP ++ ⟨#[32]⟩)) ?_ ?_ ?_
          · simp only [execOp, resolve, List.map_toArray, List.map_cons, List.map_nil, Act.eval, s75]; simp [go_sem, -Array.getD_eq_getD_getElem?, s75, l4]
          · exact Below.refl _ _
          · exact (fun _ _ => rfl)
        case o15 =>
          intro a w hfr hG hd
          refine ⟨fun hw => ?_, fun hw => absurd hw (by simp [Region.wanted])⟩
          have s1 : a.tmps.getD 1 undef = .pointer (some ⟨b, 0, none⟩) := hfr.at 1 (by kernel_rfl)
          refine op_yields (.pointer (some ⟨b, 4, none⟩)) ?_ ?_ ?_
          · simp only [execOp, resolve, List.map_toArray, List.map_cons, List.map_nil, Act.eval, s1]; simp [go_sem, -Array.getD_eq_getD_getElem?, s1]
          · exact Below.refl _ _
          · exact (fun _ _ => rfl)
        case o16 =>
          intro a w hfr hG hd
          obtain ⟨d0, _⟩ := hd
          refine ⟨fun hw => ?_, fun hw => absurd hw (by simp [Region.wanted])⟩
          have s77 : a.tmps.getD 77 undef = .pointer (some ⟨b, 4, none⟩) := (d0 rfl).now
          have z4 := hG.now.box.cell 4; simp only [List.getElem?_cons_zero, List.getElem?_cons_succ] at z4
          refine op_yields (.slice (some ad) ks.length c3) ?_ ?_ ?_
          · simp only [execOp, resolve, List.map_toArray, List.map_cons, List.map_nil, Act.eval, s77]; simp [go_sem, -Array.getD_eq_getD_getElem?, s77, z4]
          · exact Below.refl _ _
          · exact (fun _ _ => rfl)
        case o17 =>
          intro a w hfr hG hd
          obtain ⟨d0, _⟩ := hd
          refine ⟨fun hw => ?_, fun hw => absurd hw (by simp [Region.wanted])⟩
          have s78 : a.tmps.getD 78 undef = .slice (some ad) ks.length c3 := (d0 rfl).now
          refine op_yields (.pointer (some (ad.add 5))) ?_ ?_ ?_
          · simp only [execOp, resolve, List.map_toArray, List.map_cons, List.map_nil, Act.eval, s78]; simp [go_sem, -Array.getD_eq_getD_getElem?, s78, kp1]
          · exact Below.refl _ _
          · exact (fun _ _ => rfl)
        case o18 =>
          intro a w hfr hG hd
          obtain ⟨d0, _⟩ := hd
          refine ⟨fun hw => ?_, fun hw => absurd hw (by simp [Region.wanted])⟩
          have s79 : a.tmps.getD 79 undef = .pointer (some (ad.add 5)) := (d0 rfl).now
          obtain ⟨z0, z1, z2, z3, z4⟩ := kid_cells5 (HCL.out w hG.now)
          refine op_yields (.agg #[.int .i64 qb.kd, .int .i64 qb.n, qb.mv, qb.nv, qb.kv]) ?_ ?_ ?_
          · simp only [execOp, resolve, List.map_toArray, List.map_cons, List.map_nil, Act.eval, s79]; simp [go_sem, -Array.getD_eq_getD_getElem?, s79, z0, z1, z2, z3, z4]
          · exact Below.refl _ _
          · exact (fun _ _ => rfl)
        case o19 =>
          intro a w hfr hG hd
          obtain ⟨d0, d1, _⟩ := hd
          refine ⟨fun hw => ?_, fun hw => absurd hw (by simp [Region.wanted])⟩
          have s80 : a.tmps.getD 80 undef = .agg #[.int .i64 qb.kd, .int .i64 qb.n, qb.mv, qb.nv, qb.kv] := (d0 rfl).now
          refine op_calls2 ((HOB2.out w hG.now).mono fun e' w' hh => ⟨_, hh.1, hh.2, (fun _ _ => rfl)⟩) ?_
          simp only [execOp, resolve, List.map_toArray, List.map_cons, List.map_nil, Act.eval, s80]; simp [go_sem, -Array.getD_eq_getD_getElem?, s80]
        case o20 =>
          intro a w hfr hG hd
          obtain ⟨d0, d1, _⟩ := hd
          refine ⟨fun hw => ?_, fun hw => absurd hw (by simp [Region.wanted])⟩
          have s76 : a.tmps.getD 76 undef = .string (⟨#[40]⟩ ++ PA ++ ⟨#[32]⟩ ++ OP ++ ⟨#[32]⟩) := (d0 rfl).now
          have s81 : a.tmps.getD 81 undef = .string PB := (d1 rfl).now
          refine op_yields (.string (⟨#[40]⟩ ++ PA ++ ⟨#[32]⟩ ++ OP ++ ⟨#[32]⟩ ++ PB)) ?_ ?_ ?_
          · simp only [execOp, resolve, List.map_toArray, List.map_cons, List.map_nil, Act.eval, s76, s81]; simp [go_sem, -Array.getD_eq_getD_getElem?, s76, s81, l5]
          · exact Below.refl _ _
          · exact (fun _ _ => rfl)
        case o21 =>
          intro a w hfr hG hd
          obtain ⟨d0, _⟩ := hd
          refine ⟨fun hw => ?_, fun hw => absurd hw (by simp [Region.wanted])⟩
          have s82 : a.tmps.getD 82 undef = .string (⟨#[40]⟩ ++ PA ++ ⟨#[32]⟩ ++ OP ++ ⟨#[32]⟩ ++ PB) := (d0 rfl).now
          refine op_yields (.string (⟨#[40]⟩ ++ PA ++ ⟨#[32]⟩ ++ OP ++ ⟨#[32]⟩ ++ PB ++ ⟨#[41]⟩)) ?_ ?_ ?_
          · simp only [execOp, resolve, List.map_toArray, List.map_cons, List.map_nil, Act.eval, s82]; simp [go_sem, -Array.getD_eq_getD_getElem?, s82, l6]
          · exact Below.refl _ _
          · exact (fun _ _ => rfl)
        case o22 =>
          intro a w hfr hG hd
          obtain ⟨d0, d1, d2, d3, d4, d5, d6, d7, d8, d9, d10, d11, d12, d13, d14, d15, d16, d17, d18, d19, d20, d21, d22, d23, _⟩ := hd
          refine ⟨fun hw => ?_, fun hw => absurd hw (by simp [Region.wanted])⟩
          have s83 : a.tmps.getD 83 undef = .string (⟨#[40]⟩ ++ PA ++ ⟨#[32]⟩ ++ OP ++ ⟨#[32]⟩ ++ PB ++ ⟨#[41]⟩) := (d0 rfl).now
          refine op_yields (.string (⟨#[40]⟩ ++ PA ++ ⟨#[32]⟩ ++ OP ++ ⟨#[32]⟩ ++ PB ++ ⟨#[41]⟩)) ?_ ?_ ?_
          · simp only [execOp, resolve, List.map_toArray, List.map_cons, List.map_nil, Act.eval, s83]; simp [go_sem, -Array.getD_eq_getD_getElem?, s83]
          · exact Below.refl _ _
          · exact (fun _ _ => rfl)
        case hG => exact fun w' hb => HP.out.below ((Below.refl _ _).drew.trans (hb.mono (by simp)))
        case hend =>
          intro vs w' hG hv
          have key : vs 21 = .string (⟨#[40]⟩ ++ PA ++ ⟨#[32]⟩ ++ OP ++ ⟨#[32]⟩ ++ PB ++ ⟨#[41]⟩) ∧ vs 22 = .string (⟨#[40]⟩ ++ PA ++ ⟨#[32]⟩ ++ OP ++ ⟨#[32]⟩ ++ PB ++ ⟨#[41]⟩) := by
            obtain ⟨_, _, _, _, _, _, _, _, _, _, _, _, _, _, _, _, _, _, _, _, _, h21, h22, _⟩ := hv
            exact ⟨h21.now, h22.now⟩
          have HP2 := Lib.hid hG.now
          clear hv hG HP HOA2 HOB2 HCL
          rw [HE.out] at key
          simp only [putAll, Act.put, key.1, key.2]
          clear key
          go_wp2_with fail
          refine bodyPost_ret (v := .string T) (by simp [results, Tryd.results23, go_sem]) rfl ?_
          exact ⟨rfl, HP2.out.bel⟩
theorem print_any : ∀ (d : Nat), d ≤ 21 → PrintSaid d
  | 0, _ => fun x w h _ => h.elim
  | d + 1, hd => print_step d (by omega) (print_any d (by omega))
/-- Print of a right expression of numbers: at most so many bytes. -/
theorem printV_len {x : XE} (h : keepV 5 x) : (printX 5 x).length ≤ 32000 := by
  have h1 := printX_len 5 x (keepV_good 5 x h)
  have h2 : (2 : Nat) ^ (5 + 1) = 64 := rfl
  omega
theorem text_any (x : XE) (w : World) (hok : okX 5 x w) (hk : keepV 5 x) : Calls Tryd.prog 9 #[x.val] w fun e w' => e = .returned (.string ⟨(printX 5 x).toArray⟩) ∧ Below w.heap.size w w' := by
  obtain ⟨A1, c1, A2, c2, A3, c3, e1, e2, e3⟩ := okX_forms hok
  obtain ⟨kd, n, mv, ms, nv, ns, kv, ks⟩ := x
  simp only [XE.mv, XE.nv, XE.kv, XE.ms, XE.ns, XE.kids] at e1 e2 e3
  subst e1; subst e2; subst e3
  have hb := (Below.refl w.heap.size w).alloc (Nat.le_refl _) (.cells #[.int .i64 kd, .int .i64 n, .slice A1 ms.length c1, .slice A2 ns.length c2, .slice A3 ks.length c3] 38)
  have HP2 := Lib.hid (show Calls Tryd.prog 23 #[.agg #[.int .i64 kd, .int .i64 n, .slice A1 ms.length c1, .slice A2 ns.length c2, .slice A3 ks.length c3]] (w.alloc (.cells #[.int .i64 kd, .int .i64 n, .slice A1 ms.length c1, .slice A2 ns.length c2, .slice A3 ks.length c3] 38)) _ from print_any 5 (by omega) (.mk kd n (.slice A1 ms.length c1) ms (.slice A2 ns.length c2) ns (.slice A3 ks.length c3) ks) (w.alloc (.cells #[.int .i64 kd, .int .i64 n, .slice A1 ms.length c1, .slice A2 ns.length c2, .slice A3 ks.length c3] 38)) (okX_below hb 5 _ hok) (keepV_good 5 _ hk))
  have HB := Lib.hid hb
  clear hb hok hk
  generalize (⟨(printX 5 (.mk kd n (.slice A1 ms.length c1) ms (.slice A2 ns.length c2) ns (.slice A3 ks.length c3) ks)).toArray⟩ : ByteArray) = T at *
  show Calls _ _ #[.agg #[.int .i64 kd, .int .i64 n, .slice A1 ms.length c1, .slice A2 ns.length c2, .slice A3 ks.length c3]] _ _
  go_enter Tryd.func9, Tryd.ntmps9
  go_wp2_with fail
  (with_reducible refine HP2.out.mono ?_); rintro e wq ⟨rfl, hbq⟩
  go_wp2_with fail
  go_ret
  exact ⟨rfl, HB.out.trans (hbq.mono HB.out.size)⟩
end Go.Proofs.YtealflkblkfhbaaDoor
