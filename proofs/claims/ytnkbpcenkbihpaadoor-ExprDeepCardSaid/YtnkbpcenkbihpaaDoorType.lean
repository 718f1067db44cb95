/- expr.Type: what an expression comes to; typeOfOne. -/
import Derived.Test.YtnkbpcenkbihpaaDoorRead12
import Derived.Test.YtnkbpcenkbihpaaDoorBase
import Derived.Test.YtnkbpcenkbihpaaDoorRightM
namespace Go.Proofs.YtnkbpcenkbihpaaDoor
open Go.ChangeShapes Go.WideShapes Go.ChangeAt Go.RowKit
set_option linter.unusedVariables false
set_option linter.unusedSimpArgs false
set_option maxRecDepth 100000
/-- What an expression of one comes to. -/
def oneT (ns : List ByteArray) (tys : List Int) : Int := if namesF ns = true ∧ tys = [2] then 2 else 0
/-- .. of two. -/
def twoT (k : Int) (ns : List ByteArray) (tys : List Int) : Int := match ns, tys with
  | [], [a, b] => if a = 0 ∨ b = 0 then 0 else if k ≤ 7 ∧ a = 1 ∧ b = 1 then 1 else if k ≤ 7 then 2 else if k ≤ 13 ∧ a ≠ 2 then 0 else if 13 < k ∧ (a ≠ 2 ∨ b ≠ 2) then 0 else 2
  | _, _ => 0
mutual
def PE.ty : PE → Int
  | .mk k n ms ns ks => if k = 1 then (if ms.length + ns.length + ks.length = 0 then 1 else 0)
    else if k = 2 then (if ns.length + ks.length = 0 ∧ rightM ms = true ∧ 1 ≤ n ∧ n ≤ 1048576 then 2 else 0)
    else if ¬ (ms.length = 0 ∧ n = 0) then 0
    else if wordX k ≠ ⟨#[]⟩ then oneT ns (tysP ks)
    else if signX k ≠ ⟨#[]⟩ then twoT k ns (tysP ks) else 0
def tysP : List PE → List Int
  | [] => []
  | x :: l => x.ty :: tysP l
end
theorem tysP_length (l : List XE) : (tysP (pesX l)).length = l.length := by
  induction l with
  | nil => rfl
  | cons x l ih => simp [pesX, tysP, ih]
mutual
/-- An expression whose rows are short (their lengths are summed without overflow). -/
def PE.small : PE → Prop
  | .mk _ _ ms ns ks => ms.length ≤ 1000002 ∧ ns.length ≤ 1000002 ∧ ks.length ≤ 2 ∧ smallP ks
def smallP : List PE → Prop
  | [] => True
  | x :: l => x.small ∧ smallP l
end
theorem smallP_mem : ∀ (l : List XE), smallP (pesX l) → ∀ x ∈ l, x.pe.small
  | [], _ => fun x hx => absurd hx List.not_mem_nil
  | y :: l, h => fun x hx => by
    have h' : y.pe.small ∧ smallP (pesX l) := h
    rcases List.mem_cons.1 hx with rfl | hx
    · exact h'.1
    · exact smallP_mem l h'.2 x hx
/-- What is told of Type at trees of so many floors. -/
def TypeSaid (d : Nat) : Prop := ∀ (x : XE) (w : World), x.pe.small → okX d x w → Calls Tryd.prog 10 #[x.val] w fun e w' => e = .returned (.int .i64 x.pe.ty) ∧ Below w.heap.size w w'
theorem Slc.slice {w : World} {size n c : Nat} {A : Option Addr} {xs : List Value} {m : Nat} (h : Slc w size (.slice A m c) n xs) : Sees w w.heap.size size A n xs ∧ n ≤ c ∧ c ≤ 9223372036854775807 := by
  obtain ⟨A', c', e, h1, h2⟩ := h
  injection e with e1 e2 e3
  subst e1; subst e3
  exact ⟨h1, h2⟩
set_option maxHeartbeats 2000000 in
theorem typeOne_x (d : Nat) (IH : TypeSaid d) (kk nn : Int) (A1 : Option Addr) (c1 : Nat) (ms : List Mtc) (A2 : Option Addr) (c2 : Nat) (ns : List ByteArray) (A3 : Option Addr) (c3 : Nat) (ks : List XE) (w : World) (hs : smallP (pesX ks))
    (h : okX (d + 1) (.mk kk nn (.slice A1 ms.length c1) ms (.slice A2 ns.length c2) ns (.slice A3 ks.length c3) ks) w) :
    Calls Tryd.prog 27 #[.agg #[.int .i64 kk, .int .i64 nn, .slice A1 ms.length c1, .slice A2 ns.length c2, .slice A3 ks.length c3]] w fun e w' => e = .returned (.int .i64 (oneT ns (tysP (pesX ks)))) ∧ Below w.heap.size w w' := by
  obtain ⟨_, h2, h3, h4⟩ := h
  obtain ⟨s2, m2, m2'⟩ := Slc.slice h2
  obtain ⟨s3, m3, m3'⟩ := Slc.slice h3
  replace s3 : Sees w w.heap.size 5 A3 ks.length (kcells ks) := s3
  have hb : Below w.heap.size w (w.alloc (.cells #[.int .i64 kk, .int .i64 nn, .slice A1 ms.length c1, .slice A2 ns.length c2, .slice A3 ks.length c3] 26)) := (Below.refl _ _).alloc (Nat.le_refl _) _
  have HB := Lib.hid hb
  have HX := Lib.hid (Blk.mk (heap_alloc_new w (.cells #[.int .i64 kk, .int .i64 nn, .slice A1 ms.length c1, .slice A2 ns.length c2, .slice A3 ks.length c3] 26)) : Blk _ w.heap.size 26 [.int .i64 kk, .int .i64 nn, .slice A1 ms.length c1, .slice A2 ns.length c2, .slice A3 ks.length c3])
  have HN := Lib.hid (names_x A2 ns.length c2 _ ns (w.alloc (.cells #[.int .i64 kk, .int .i64 nn, .slice A1 ms.length c1, .slice A2 ns.length c2, .slice A3 ks.length c3] 26)) (s2.below hb) m2 m2')
  have H3 := Lib.hid (s3.below hb)
  have HI := Lib.hid (fun x (hx : x ∈ ks) => IH x (w.alloc (.cells #[.int .i64 kk, .int .i64 nn, .slice A1 ms.length c1, .slice A2 ns.length c2, .slice A3 ks.length c3] 26)) (smallP_mem ks hs x hx) (okX_below hb d x (h4 x hx)))
  have HOK := Lib.hid (fun x (hx : x ∈ ks) => okX_below hb d x (h4 x hx))
  have HT : Hid (oneT ns (tysP (pesX ks)) = if namesF ns = true ∧ tysP (pesX ks) = [2] then 2 else 0) := Lib.hid rfl
  obtain ⟨q, hq⟩ : ∃ q, oneT ns (tysP (pesX ks)) = q := ⟨_, rfl⟩
  rw [hq] at HT ⊢
  clear h2 h3 h4 s2 s3 hb IH hq m3 m3' hs
  go_enter Tryd.func27, Tryd.ntmps27
  go_upto_region 1 with fail
  generalize w.alloc (.cells #[.int .i64 kk, .int .i64 nn, .slice A1 ms.length c1, .slice A2 ns.length c2, .slice A3 ks.length c3] 26) = W1 at *
  obtain ⟨x0, x1, x2, x3, x4⟩ := blk_cells5 HX.out
  cases hn : namesF ns with
  | false =>
    rw [hn] at HN
    have HE := Lib.hid (show q = 0 by rw [HT.out, if_neg (by rw [hn]; simp)])
    clear hn
    go_wp2_with fail
    (with_reducible refine HN.out.mono ?_); rintro e w' ⟨rfl, rfl⟩
    go_wp2_with fail
    go_ret
    exact ⟨by rw [HE.out]; rfl, HB.out⟩
  | true =>
    rw [hn] at HN
    match ks with
    | [] =>
      have HE := Lib.hid (show q = 0 by rw [HT.out, if_neg (fun h => absurd h.2 (by simp [pesX, tysP]))])
      clear hn
      go_wp2_with fail
      (with_reducible refine HN.out.mono ?_); rintro e w' ⟨rfl, rfl⟩
      go_wp2_with fail
      go_ret
      exact ⟨by rw [HE.out]; rfl, HB.out⟩
    | a :: b :: l =>
      have t1 : (((l.length + 1 + 1 : Nat) : Int) != 1) = true := by rw [bne_iff_ne]; omega
      have t2 : ((l.length : Int) + 1 + 1 != 1) = true := by rw [bne_iff_ne]; omega
      have HE := Lib.hid (show q = 0 by rw [HT.out, if_neg (fun h => absurd h.2 (by simp [pesX, tysP]))])
      clear hn
      go_wp2_with fail
      (with_reducible refine HN.out.mono ?_); rintro e w' ⟨rfl, rfl⟩
      go_wp2_with fail
      go_ret
      exact ⟨by rw [HE.out]; rfl, HB.out⟩
    | [a] =>
      obtain ⟨ad, hl, rfl, c0, c1', c2', c3', c4⟩ := H3.out.kid (k := 0) (by simp)
      have e0 : ad.add (0 * 5) = ad := by first | (simp [go_sem]; done) | (unfold Addr.add; split <;> simp_all)
      rw [e0] at c0 c1' c2' c3' c4
      obtain ⟨B1, e1, B2, e2, B3, e3, v1, v2, v3⟩ := okX_forms (HOK.out a (by simp))
      have HIA := Lib.hid (HI.out a (by simp))
      have HE := Lib.hid (show q = if a.pe.ty = 2 then 2 else 0 by rw [HT.out]; simp [hn, pesX, tysP])
      obtain ⟨ak, an, amv, ams, anv, ans, akv, aks⟩ := a
      simp only [XE.mv, XE.nv, XE.kv, XE.ms, XE.ns, XE.kids] at v1 v2 v3
      subst v1; subst v2; subst v3
      simp only [List.getElem_cons_zero, XE.kd, XE.n, XE.mv, XE.nv, XE.kv, XE.val] at c0 c1' c2' c3' c4 HIA
      clear hn
      generalize (XE.pe _).ty = ta at *
      go_wp2_with fail
      (with_reducible refine HN.out.mono ?_); rintro e w' ⟨rfl, rfl⟩
      go_wp2_with fail
      (with_reducible refine HIA.out.mono ?_); rintro e w2 ⟨rfl, hb2⟩
      have HB2 := Lib.hid (HB.out.trans (hb2.mono HB.out.size))
      clear hb2
      by_cases ht : ta = 2
      · have t1 : (ta != 2) = false := by rw [ht]; rfl
        have HE2 := Lib.hid (show q = 2 by rw [HE.out, if_pos ht])
        clear ht
        go_wp2_with fail
        go_ret
        exact ⟨by rw [HE2.out]; rfl, HB2.out⟩
      · have t1 : (ta != 2) = true := by rw [bne_iff_ne]; exact ht
        have HE2 := Lib.hid (show q = 0 by rw [HE.out, if_neg ht])
        clear ht
        go_wp2_with fail
        go_ret
        exact ⟨by rw [HE2.out]; rfl, HB2.out⟩
end Go.Proofs.YtnkbpcenkbihpaaDoor
