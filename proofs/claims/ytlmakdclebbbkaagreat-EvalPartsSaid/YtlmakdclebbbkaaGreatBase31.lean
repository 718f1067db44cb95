/- Texts, merged in one. -/
import Derived.Test.YtlmakdclebbbkaaGreatBase30
import Derived.Test.YtlmakdclebbbkaaGreatBase6
import Derived.Test.YtlmakdclebbbkaaGreatBase
import Derived.Test.YtlmakdclebbbkaaGreatRows
import Derived.Maps.OwnOps
import Derived.Maps.OwnSet
import Derived.Maps.Views
import Derived.StringKeys
import Derived.WalkKit
import Derived.Test.YtlmakdclebbbkaaGreatBase4
import Derived.Test.YtlmakdclebbbkaaGreatBase10
import Derived.Deep.CutBlock
namespace Go.Proofs.YtlmakdclebbbkaaGreat
open Go.ChangeShapes Go.WideShapes Go.ChangeAt Go.RowKit
set_option linter.unusedVariables false
set_option maxRecDepth 100000
def putsD (D : List SK) (l : List Lbl) (xs : List (Int × Int)) : List SK := xs.foldl (fun D x => putS D l x) D
theorem putsD_snoc (D : List SK) (l : List Lbl) (xs : List (Int × Int)) (x : Int × Int) : putsD D l (xs ++ [x]) = putS (putsD D l xs) l x := by simp [putsD]
def insD (D : List SK) (l : List Lbl) (ys : List (Int × Int)) : List SK := D.take (placeN D (printL l)) ++ (l, ys) :: D.drop (placeN D (printL l))
theorem insD_place (D : List SK) (l : List Lbl) (ys : List (Int × Int)) : placeN (insD D l ys) (printL l) = placeN D (printL l) ∧ placeB (insD D l ys) (printL l) = true ∧ (insD D l ys).getD (placeN D (printL l)) ([], []) = (l, ys) := by
  have hle := placeN_le D (printL l)
  have hlt : (D.take (placeN D (printL l))).length = placeN D (printL l) := by rw [List.length_take]; omega
  have hg : (insD D l ys)[placeN D (printL l)]? = some (l, ys) := by
    unfold insD
    rw [List.getElem?_append_right (by omega), hlt, Nat.sub_self]; rfl
  obtain ⟨hk, hg2⟩ := List.getElem?_eq_some_iff.1 hg
  have h1 : placeN (insD D l ys) (printL l) = placeN D (printL l) := placeN_of (Nat.le_of_lt hk) (fun i h hi => by
    have e : (insD D l ys)[i]? = (D.take (placeN D (printL l)))[i]? := by unfold insD; rw [List.getElem?_append_left (by omega)]
    have hm : (insD D l ys)[i] ∈ D.take (placeN D (printL l)) := by
      rw [List.getElem?_eq_getElem h] at e
      exact List.mem_of_getElem? e.symm
    exact takeN_less _ D _ hm) (fun h => by rw [hg2]; exact less_irrefl _)
  refine ⟨h1, ?_, by rw [List.getD_eq_getElem?_getD, hg]; rfl⟩
  rw [placeB_of h1 hk, hg2]; simp
theorem insD_set (D : List SK) (l : List Lbl) (ys zs : List (Int × Int)) : (insD D l ys).set (placeN D (printL l)) (l, zs) = insD D l zs := by
  have hle := placeN_le D (printL l)
  have hlt : (D.take (placeN D (printL l))).length = placeN D (printL l) := by rw [List.length_take]; omega
  unfold insD
  rw [List.set_append_right _ _ (by omega), hlt, Nat.sub_self]; rfl
theorem puts_fresh {D : List SK} {l : List Lbl} {b : Int} {xs : List (Int × Int)} (hr : rightS l = true) (hB : placeB D (printL l) = false) (hn : D.length < 32) (hx : Rises 0 b xs) (hb : b ≤ 1099511627776) (hl : xs.length ≤ 200) :
    ∀ j, j ≤ xs.length → putsD D l (xs.take j) = (if j = 0 then D else insD D l (xs.take j)) ∧ ∀ h : j < xs.length, putE (putsD D l (xs.take j)) l xs[j] = 0 := by
  have step : ∀ j, j ≤ xs.length → putsD D l (xs.take j) = (if j = 0 then D else insD D l (xs.take j)) → ∀ h : j < xs.length, putE (putsD D l (xs.take j)) l xs[j] = 0 := fun j hj he h => by
    have h2 := rises_get hx j h
    have hg : ¬ (rightS l = false ∨ xs[j].1 < 0 ∨ 1099511627776 < xs[j].1) := by
      rintro (h | h | h)
      · rw [hr] at h; cases h
      · omega
      · omega
    rw [he]
    by_cases h0 : j = 0
    · rw [if_pos h0]; unfold putE; rw [if_neg hg, hB, if_neg (by decide), if_neg (by omega)]
    · rw [if_neg h0]
      obtain ⟨i1, i2, i3⟩ := insD_place D l (xs.take j)
      unfold putE
      rw [if_neg hg, i2, if_pos rfl, i1, i3]
      have hlen : (xs.take j).length = j := by rw [List.length_take]; omega
      have hlast : lastT (xs.take j) < xs[j].1 := by
        unfold lastT
        rw [hlen, List.getD_eq_getElem?_getD, List.getElem?_take, if_pos (by omega), List.getElem?_eq_getElem (by omega)]
        exact rises_lt hx (j - 1) j (by omega) h
      simp only [hlen]
      generalize xs[j] = p at *
      obtain ⟨y, z⟩ := p
      try simp only at h2 hlast
      rw [addErr_next (by omega) (by omega) (by omega) (by omega)]; rfl
  intro j
  induction j with
  | zero => exact fun hj => ⟨rfl, step 0 hj rfl⟩
  | succ j ih =>
    intro hj
    obtain ⟨h1, h2⟩ := ih (by omega)
    have hjl : j < xs.length := by omega
    have hE := h2 hjl
    have e : putsD D l (xs.take (j + 1)) = insD D l (xs.take (j + 1)) := by
      rw [List.take_succ_eq_append_getElem hjl, putsD_snoc]
      unfold putS
      rw [if_pos hE, h1]
      by_cases h0 : j = 0
      · rw [if_pos h0]; subst h0
        unfold putD; rw [hB, if_neg (by decide)]; rfl
      · rw [if_neg h0]
        obtain ⟨i1, i2, i3⟩ := insD_place D l (xs.take j)
        unfold putD
        rw [i2, if_pos rfl, i1, i3, insD_set]
    exact ⟨by rw [e, if_neg (by omega)], step (j + 1) hj (by rw [e, if_neg (by omega)])⟩
theorem putS_sets {D : List SK} {l : List Lbl} {x : Int × Int} : (∀ y ∈ putS D l x, y.1 = l ∨ ∃ z ∈ D, y.1 = z.1) ∧ (putS D l x).length ≤ D.length + 1 := by
  unfold putS
  split
  · unfold putD
    split
    · next hB =>
      have hlt := placeB_lt hB
      have hgd : D.getD (placeN D (printL l)) ([], []) = D[placeN D (printL l)] := by rw [List.getD_eq_getElem?_getD, List.getElem?_eq_getElem hlt]; rfl
      refine ⟨fun y hy => ?_, by rw [List.length_set]; omega⟩
      rcases List.mem_or_eq_of_mem_set hy with hy | rfl
      · exact .inr ⟨y, hy, rfl⟩
      · exact .inr ⟨_, List.getElem_mem hlt, by rw [hgd]⟩
    · refine ⟨fun y hy => ?_, by simp; omega⟩
      rcases List.mem_append.1 hy with hy | hy
      · exact .inr ⟨y, List.mem_of_mem_take hy, rfl⟩
      · rcases List.mem_cons.1 hy with rfl | hy
        · exact .inl rfl
        · exact .inr ⟨y, List.mem_of_mem_drop hy, rfl⟩
  · exact ⟨fun y hy => .inr ⟨y, hy, rfl⟩, by omega⟩
theorem placeB_no {D : List SK} (hD : DOk D) {l : List Lbl} (hr : rightS l = true) (h : ∀ x ∈ D, x.1 ≠ l) : placeB D (printL l) = false := by
  cases hB : placeB D (printL l) with
  | false => rfl
  | true =>
    have hlt := placeB_lt hB
    have e := placeB_of (t := printL l) rfl hlt
    rw [hB] at e
    have e2 : printL D[placeN D (printL l)].1 = printL l := by simpa using e.symm
    exact absurd (print_inj (hD.row _ (List.getElem_mem hlt)).1 hr e2) (h _ (List.getElem_mem hlt))
def keyOne (x : Lbl) : List UInt8 := x.1.data.toList ++ 61 :: (x.2.data.toList ++ [59])
def keyOfL (l : List Lbl) : List UInt8 := l.flatMap keyOne
def fName (i : Nat) : Lbl := (⟨#[110, 97, 109, 101]⟩, ⟨#[UInt8.ofNat (109 + i % 2)]⟩)
def fSet (k : KSet) (i : Nat) : List Lbl := setF k ++ [fName i]
theorem fSet_len (k : KSet) (i : Nat) : (fSet k i).length ≤ 4 := by have := setF_len k; unfold fSet; rw [List.length_append]; simp; omega
theorem fSet_right (k : KSet) (i : Nat) : rightS (fSet k i) = true := by
  have hw : wordF (⟨#[110, 97, 109, 101]⟩ : ByteArray) = true := by decide
  have h0 := setUp_right k 3 (Nat.le_refl _)
  refine rightS_of (by have := fSet_len k i; omega) (fun x hx => ?_) ?_
  · rcases List.mem_append.1 hx with hx | hx
    · exact h0.2.1 x hx
    · rw [List.mem_singleton] at hx; subst hx
      unfold lblOk fName
      simp only [hw, Bool.true_and]
      simp [ByteArray.size]
  · unfold fSet
    rw [List.pairwise_append]
    refine ⟨h0.2.2.1, List.pairwise_singleton _ _, fun a ha b hb => ?_⟩
    rw [List.mem_singleton] at hb; subst hb
    obtain ⟨q, hq, e⟩ := setF_names k a ha
    rw [e]
    match q, hq with
    | 0, _ => show Op.bytesLess (⟨#[97]⟩ : ByteArray).toList (⟨#[110, 97, 109, 101]⟩ : ByteArray).toList = true; rw [ByteArray.toList_eq, ByteArray.toList_eq]; decide
    | 1, _ => show Op.bytesLess (⟨#[98]⟩ : ByteArray).toList (⟨#[110, 97, 109, 101]⟩ : ByteArray).toList = true; rw [ByteArray.toList_eq, ByteArray.toList_eq]; decide
    | 2, _ => show Op.bytesLess (⟨#[99]⟩ : ByteArray).toList (⟨#[110, 97, 109, 101]⟩ : ByteArray).toList = true; rw [ByteArray.toList_eq, ByteArray.toList_eq]; decide
structure IRow where
  A : Option Addr
  n : Nat
  c : Nat
  zs : List Int
def ARows (w : World) (B : Nat) (A : Option Addr) (rs : List IRow) : Prop :=
  ∀ i (h : i < rs.length), ∃ ad, A = some ad ∧ ad.block < B ∧ w.cell? (ad.add i) = some (.slice rs[i].A rs[i].n rs[i].c) ∧ Sees w B 1 rs[i].A rs[i].n (ints rs[i].zs) ∧ (∀ z ∈ rs[i].zs, I64 z) ∧ rs[i].n ≤ rs[i].c ∧ rs[i].c ≤ 9223372036854775807
theorem ARows.below {w w' : World} {B : Nat} {A : Option Addr} {rs : List IRow} (h : ARows w B A rs) (hb : Below B w w') : ARows w' B A rs := fun i hi => by
  obtain ⟨ad, e, hB, c0, hs, hr⟩ := h i hi
  exact ⟨ad, e, hB, (hb.cell (by rw [add_block]; exact hB)).trans c0, hs.below hb, hr⟩
def AKSetsF (w : World) (B : Nat) (A : Option Addr) (qs : List KSet) : Prop :=
  ∀ i (h : i < qs.length), ∃ ad, A = some ad ∧ ad.block < B ∧ w.cell? (ad.add (i * 2)) = some (.slice qs[i].A qs[i].n qs[i].c) ∧ w.cell? ⟨(ad.add (i * 2)).block, (ad.add (i * 2)).off + 1, none⟩ = some (.slice qs[i].A2 qs[i].n2 qs[i].c2) ∧ qs[i].ok B w
theorem AKSetsF.below {w w' : World} {B : Nat} {A : Option Addr} {qs : List KSet} (h : AKSetsF w B A qs) (hb : Below B w w') : AKSetsF w' B A qs := fun i hi => by
  obtain ⟨ad, e, hB, c0, c1, hk⟩ := h i hi
  have hb2 : ∀ o, w'.cell? ⟨(ad.add (i * 2)).block, o, none⟩ = w.cell? ⟨(ad.add (i * 2)).block, o, none⟩ := fun o => hb.cell (p := ⟨_, o, none⟩) (by rw [add_block]; exact hB)
  exact ⟨ad, e, hB, (hb.cell (by rw [add_block]; exact hB)).trans c0, (hb2 _).trans c1, hk.below hb⟩
structure KStore where
  A : Option Addr
  c : Nat
  qs : List KSet
  A2 : Option Addr
  c2 : Nat
  rs : List IRow
def KStore.val (k : KStore) : Value := .agg #[.slice k.A k.qs.length k.c, .slice k.A2 k.rs.length k.c2]
structure KStore.ok (k : KStore) (B : Nat) (w : World) : Prop where
  sets : AKSetsF w B k.A k.qs
  rows : ARows w B k.A2 k.rs
  n1 : k.qs.length ≤ k.c ∧ k.c ≤ 9223372036854775807
  n2 : k.rs.length ≤ k.c2 ∧ k.c2 ≤ 9223372036854775807
theorem KStore.ok.below {k : KStore} {B : Nat} {w w' : World} (h : k.ok B w) (hb : Below B w w') : k.ok B w' := ⟨h.sets.below hb, h.rows.below hb, h.n1, h.n2⟩
def metF (M : List (List Lbl)) (t : List UInt8) : Bool := M.any fun s => keyOfL s == t
def xsOf (k : KStore) (i : Nat) : List (Int × Int) := if h : i < k.rs.length then samplesOf 0 (k.rs[i].zs.take 20) else []
def setOf (k : KStore) (i : Nat) : List Lbl := if h : i < k.qs.length then fSet k.qs[i] i else []
def fillUp (k : KStore) : Nat → List (List Lbl) × List SK
  | 0 => ([], [])
  | i + 1 => if metF (fillUp k i).1 (keyOfL (setOf k i)) || decide (k.rs.length ≤ i) then fillUp k i else (setOf k i :: (fillUp k i).1, putsD (fillUp k i).2 (setOf k i) (xsOf k i))
def fillF (k : KStore) : List SK := (fillUp k (min k.qs.length 5)).2
theorem fillUp_inv (k : KStore) : ∀ i, (∀ x ∈ (fillUp k i).2, x.1 ∈ (fillUp k i).1) ∧ (fillUp k i).2.length ≤ i ∧ ∀ s ∈ (fillUp k i).1, ∃ j, j < i ∧ s = setOf k j
  | 0 => by simp [fillUp]
  | i + 1 => by
    obtain ⟨h1, h2, h3⟩ := fillUp_inv k i
    unfold fillUp
    split
    · exact ⟨h1, by omega, fun s hs => by obtain ⟨j, hj, e⟩ := h3 s hs; exact ⟨j, by omega, e⟩⟩
    · have key : ∀ (xs : List (Int × Int)) (D : List SK), (∀ x ∈ putsD D (setOf k i) xs, x.1 = setOf k i ∨ ∃ z ∈ D, x.1 = z.1) := by
        intro xs
        induction xs with
        | nil => exact fun D x hx => .inr ⟨x, hx, rfl⟩
        | cons y ys ih =>
          intro D x hx
          rcases ih (putS D (setOf k i) y) x hx with h | ⟨z, hz, e⟩
          · exact .inl h
          · rcases putS_sets.1 z hz with h | ⟨u, hu, e2⟩
            · exact .inl (e.trans h)
            · exact .inr ⟨u, hu, e.trans e2⟩
      have hlen : (putsD (fillUp k i).2 (setOf k i) (xsOf k i)).length ≤ (fillUp k i).2.length + 1 := by
        have : ∀ (xs : List (Int × Int)) (D : List SK), (placeB D (printL (setOf k i)) = true → (putsD D (setOf k i) xs).length = D.length) ∧ (putsD D (setOf k i) xs).length ≤ D.length + 1 := by
          intro xs
          induction xs with
          | nil => exact fun D => ⟨fun _ => rfl, by show D.length ≤ _; omega⟩
          | cons y ys ih =>
            intro D
            have e : putsD D (setOf k i) (y :: ys) = putsD (putS D (setOf k i) y) (setOf k i) ys := rfl
            rw [e]
            by_cases hE : putE D (setOf k i) y = 0
            · have ep : putS D (setOf k i) y = putD D (setOf k i) y := by unfold putS; rw [if_pos hE]
              by_cases hB : placeB D (printL (setOf k i)) = true
              · have hlt := placeB_lt hB
                have e2 : putD D (setOf k i) y = D.set (placeN D (printL (setOf k i))) ((D.getD (placeN D (printL (setOf k i))) ([], [])).1, (D.getD (placeN D (printL (setOf k i))) ([], [])).2 ++ [y]) := by unfold putD; rw [if_pos hB]
                have hgd : D.getD (placeN D (printL (setOf k i))) ([], []) = D[placeN D (printL (setOf k i))] := by rw [List.getD_eq_getElem?_getD, List.getElem?_eq_getElem hlt]; rfl
                have hB2 : placeB (putS D (setOf k i) y) (printL (setOf k i)) = true := by
                  rw [ep, e2, hgd]
                  have hmap : ∀ (D : List SK) (n : Nat) (h : n < D.length) (zs : List (Int × Int)) (t : List UInt8), placeN (D.set n (D[n].1, zs)) t = placeN D t := fun D n h zs t => by
                    refine placeN_of (by rw [List.length_set]; exact placeN_le _ _) (fun j hj hlt => ?_) (fun hj => ?_)
                    · have : (D.set n (D[n].1, zs))[j].1 = (D[j]'(by simpa using hj)).1 := by rw [List.getElem_set]; split <;> simp_all
                      rw [this]
                      exact takeN_less t D _ (List.mem_take_iff_getElem.2 ⟨j, by have := placeN_le D t; omega, rfl⟩)
                    · have hj' : placeN D t < D.length := by simpa using hj
                      have : (D.set n (D[n].1, zs))[placeN D t].1 = (D[placeN D t]).1 := by rw [List.getElem_set]; split <;> simp_all
                      rw [this]
                      have h4 : ∀ (D : List SK) (h : placeN D t < D.length), Op.bytesLess (printL D[placeN D t].1) t = false := by
                        intro D
                        induction D with
                        | nil => intro h; simp at h
                        | cons u D ih =>
                          intro h
                          cases hu : Op.bytesLess (printL u.1) t with
                          | false => simp only [placeN_neg hu, List.getElem_cons_zero]; exact hu
                          | true =>
                            simp only [placeN_pos hu, List.getElem_cons_succ]
                            exact ih (by rw [placeN_pos hu] at h; simpa using h)
                      exact h4 D hj'
                  have hp := hmap D (placeN D (printL (setOf k i))) hlt (D[placeN D (printL (setOf k i))].2 ++ [y]) (printL (setOf k i))
                  rw [placeB_of hp (by rw [List.length_set]; exact hlt), List.getElem_set_self]
                  rw [placeB_of rfl hlt] at hB
                  exact hB
                have h5 := (ih (putS D (setOf k i) y)).1 hB2
                have h6 : (putS D (setOf k i) y).length = D.length := by rw [ep, e2, List.length_set]
                exact ⟨fun _ => by rw [h5, h6], by rw [h5, h6]; omega⟩
              · have hB' : placeB D (printL (setOf k i)) = false := by simpa using hB
                have e2 : putD D (setOf k i) y = insD D (setOf k i) [y] := by unfold putD; rw [if_neg hB]; rfl
                have hB2 : placeB (putS D (setOf k i) y) (printL (setOf k i)) = true := by rw [ep, e2]; exact (insD_place D _ _).2.1
                have h5 := (ih (putS D (setOf k i) y)).1 hB2
                have h6 := (putS_sets (D := D) (l := setOf k i) (x := y)).2
                exact ⟨fun h => absurd h hB, by rw [h5]; exact h6⟩
            · have ep : putS D (setOf k i) y = D := by unfold putS; rw [if_neg hE]
              rw [ep]; exact ih D
        exact (this _ _).2
      refine ⟨fun x hx => ?_, by show (putsD (fillUp k i).2 (setOf k i) (xsOf k i)).length ≤ i + 1; omega, fun s hs => ?_⟩
      · rcases key _ _ x hx with h | ⟨z, hz, e⟩
        · rw [h]; exact List.mem_cons_self
        · rw [e]; exact List.mem_cons_of_mem _ (h1 z hz)
      · rcases List.mem_cons.1 hs with rfl | hs
        · exact ⟨i, by omega, rfl⟩
        · obtain ⟨j, hj, e⟩ := h3 s hs; exact ⟨j, by omega, e⟩
end Go.Proofs.YtlmakdclebbbkaaGreat

namespace Go.Proofs.YtlmakdclebbbkaaGreat
open Go.RowKit Go.Maps
set_option linter.unusedVariables false
set_option maxRecDepth 100000
theorem keyedS : Keyed Tryz.prog 9 := string_keyed Tryz.underlying9
theorem zeroBS (w : World) : (zeroValue 4).run Tryz.prog w = .ok (.bool false) w := by kernel_rfl
theorem keyS {t : ByteArray} (h : t.size ≤ maxLen) : keyOf Tryz.prog 9 (.string t) = some (.string t.data.toList) := Go.WideMaps.keyOf_string_mk Tryz.underlying9 h
def SMap (w : World) (b n : Nat) (f : List UInt8 → Bool) : Prop :=
  ∃ D : DataW Unit, w.ownsMap Tryz.prog 9 (plainElem Tryz.prog 4) b n D ∧ IsMap D ∧ ∀ t : List UInt8, D.atKey (.string t) (.lit (.bool false)) = .lit (.bool (f t))
theorem SMap.made (w : World) : SMap (w.alloc (.map #[] 0)) w.heap.size 0 (fun _ => false) :=
  ⟨.map [], World.ownsMap_made _ _ _ _, ⟨[], rfl⟩, fun t => rfl⟩
theorem SMap.lt {w : World} {b n : Nat} {f : List UInt8 → Bool} (h : SMap w b n f) : b < w.heap.size := by obtain ⟨D, h, _⟩ := h; exact h.lt
theorem SMap.kept {w w' : World} {b n : Nat} {f : List UInt8 → Bool} {row : Option Nat} (h : SMap w b n f) (hg : w.grownBy w' row) (hne : some b ≠ row) : SMap w' b n f := by
  obtain ⟨D, h, h2⟩ := h; exact ⟨D, h.kept hg hne, h2⟩
theorem SMap.below {w w' : World} {b n : Nat} {f : List UInt8 → Bool} (h : SMap w b n f) (hb : Below w.heap.size w w') : SMap w' b n f :=
  h.kept (row := none) ⟨hb.os, hb.tape, hb.output, hb.size, fun i hi _ => hb.block i hi⟩ (by simp)
theorem SMap.drewN {w : World} {b n : Nat} {f : List UInt8 → Bool} (h : SMap w b n f) (m : Nat) : SMap (w.drewN m) b n f := h
theorem SMap.look {w : World} {b n : Nat} {f : List UInt8 → Bool} (h : SMap w b n f) {t : ByteArray} (ht : t.size ≤ maxLen) : (Instr.lookup 103 (.map (some b)) (.string t) false).run Tryz.prog w = .ok (.bool (f t.data.toList)) w := by
  obtain ⟨D, h, _, hf⟩ := h
  obtain ⟨v, ps, hrun, hv⟩ := h.lookup keyedS Tryz.underlying103 (zeroBS w) (plainElem_bool Tryz.underlying4 false) (keyS ht)
  rw [hf] at hv
  have : v = .bool (f t.data.toList) := by
    unfold plainElem at hv
    rw [Tryz.underlying4] at hv
    cases v <;> simp at hv
    rw [hv.1]
  rw [this] at hrun; exact hrun
theorem SMap.put {w : World} {b n : Nat} {f : List UInt8 → Bool} (h : SMap w b n f) (hn : n < 1000000) {t : ByteArray} (ht : t.size ≤ maxLen) :
    ∃ w', (Instr.mapUpdate 103 (.map (some b)) (.string t) (.bool true)).run Tryz.prog w = .ok () w' ∧ SMap w' b (n + 1) (fun x => x == t.data.toList || f x) ∧ w.grownBy w' (some b) := by
  obtain ⟨D, h, hm, hf⟩ := h
  obtain ⟨w', hrun, h2, h3⟩ := h.update keyedS Tryz.underlying103 (by unfold maxLen; omega) (keyS ht) (plainElem_bool Tryz.underlying4 true)
  refine ⟨w', hrun, ⟨_, h2, hm.put _ _, fun x => ?_⟩, h3⟩
  by_cases hx : x = t.data.toList
  · subst hx
    rw [atKey_put_same (k := .string t.data.toList) hm (show WideAt.IsKeyLit (.string t.data.toList) from trivial)]
    simp
  · rw [atKey_put_other (by intro e; injection e with e; exact hx e), hf]
    have : (x == t.data.toList) = false := by simpa using hx
    show DataW.lit (Lit.bool (f x)) = DataW.lit (Lit.bool (x == t.data.toList || f x))
    rw [this, Bool.false_or]
theorem wpList_put_smap {P : Program} {w : World} {ops : Array Oper} {rest : List Oper} {o : Oper} {a : Act} {Q : Exit → Act → World → Prop} (hg : o.guard = none) (m x v : Operand) (t : TypeId) (hop : o.op = Op.mapUpdate t m x v)
    (vm vx vv : Value) (hm : a.eval m = vm) (hx : a.eval x = vx) (hv : a.eval v = vv) (w' : World) (hrun : (Instr.mapUpdate t vm vx vv).run P w = .ok () w') (hK : wpList P ops Q rest (a.put o.dst undef) w') : wpList P ops Q (o :: rest) a w := by
  refine wpList_plain hg fun K' hK' => ?_
  unfold Oper.wp
  simp [execOp, hop, hm, hx, hv, hrun, Result.andThen]
  exact hK' _ _ hK
end Go.Proofs.YtlmakdclebbbkaaGreat

namespace Go.Proofs.YtlmakdclebbbkaaGreat
open Go.ChangeShapes Go.WideShapes Go.ChangeAt Go.RowKit
set_option linter.unusedVariables false
set_option linter.unusedSimpArgs false
set_option maxRecDepth 100000
theorem SMap.same {w w' : World} {b n : Nat} {f : List UInt8 → Bool} (h : SMap w b n f) (hb : w'.heap[b]? = w.heap[b]?) : SMap w' b n f := by
  obtain ⟨D, ⟨es, clock, h1, F, hs, hD⟩, h2⟩ := h
  exact ⟨D, ⟨es, clock, hb.trans h1, F, hs, hD⟩, h2⟩
theorem SMap.kind {w : World} {b n : Nat} {f : List UInt8 → Bool} (h : SMap w b n f) : ∀ (cs : Array Value) (t : TypeId) (q : Nat × Nat), w.heap[b]? ≠ some (Obj.cells cs t q) := by
  obtain ⟨D, ⟨es, clock, h1, F, hs, hD⟩, h2⟩ := h
  intro cs t q e
  rw [h1] at e; cases e
theorem SMap.ne_own {w : World} {b n base : Nat} {f : List UInt8 → Bool} {e : TypeId} {s m : Nat} {u : Value} {xs : List Value} (h : SMap w b n f) (ho : w.ownsRow base e s u m xs) : u.ownBlock ≠ some b := fun hu => by
  obtain ⟨cs, q, e1⟩ := own_type ho hu
  exact h.kind _ _ _ e1
theorem SMap.ne_blk {w : World} {b n g : Nat} {f : List UInt8 → Bool} {t : TypeId} {cs : List Value} (h : SMap w b n f) (hk : Blk w g t cs) : g ≠ b := fun e => by
  subst e; exact h.kind _ _ _ hk.eq
theorem SMap.widen {w : World} {b n m : Nat} {f : List UInt8 → Bool} (h : SMap w b n f) (hm : n ≤ m) : SMap w b m f := by
  obtain ⟨D, ⟨es, clock, h1, F, hs, hD⟩, h2⟩ := h
  exact ⟨D, ⟨es, clock, h1, F, by omega, hD⟩, h2⟩
theorem TurnS.trans {g : Nat} {v v1 : Value} {W W1 W2 : World} (h : TurnS g v W W1) (hw : Where W v v1) (h2 : TurnS g v1 W1 W2) : TurnS g v W W2 :=
  ⟨h2.os.trans h.os, h2.tape.trans h.tape, h2.output.trans h.output, Nat.le_trans h.size h2.size, fun k hk hg hv => (h2.block k (Nat.lt_of_lt_of_le hk h.size) hg (fun e => by
    rcases hw with e2 | e2
    · exact hv (e.trans e2)
    · have := e2 k e.symm; omega)).trans (h.block k hk hg hv)⟩
theorem Where.trans2 {W W1 : World} {v v1 v2 : Value} (h : Where W v v1) (h2 : Where W1 v1 v2) (hs : W.heap.size ≤ W1.heap.size) : Where W v v2 := by
  rcases h2 with e | e
  · rcases h with e1 | e1
    · exact .inl (e.trans e1)
    · exact .inr fun k hk => e1 k (e ▸ hk)
  · exact .inr fun k hk => by have := e k hk; omega
structure FillAt (k : KStore) (w0 : World) (g : Nat) (v : Value) (W0 : World) (kb mb : Nat) (i : Nat) (M : List (List Lbl)) (D : List SK) (v' : Value) (W : World) : Prop where
  sto : Sto w0 g v' D W
  turn : TurnS g v W0 W
  wh : Where W0 v v'
  box : Blk W kb 51 [.slice k.A k.qs.length k.c, .slice k.A2 k.rs.length k.c2]
  met : SMap W mb i (metF M)
  args : k.ok w0.heap.size W
  mbs : W0.heap.size ≤ mb
  w0s : w0.heap.size ≤ W0.heap.size
section
variable {k : KStore} {w0 W0 W W' : World} {g kb mb i : Nat} {v v' v2 : Value} {M : List (List Lbl)} {D D2 : List SK}
theorem FillAt.below (h : FillAt k w0 g v W0 kb mb i M D v' W) (hb : Below W.heap.size W W') : FillAt k w0 g v W0 kb mb i M D v' W' :=
  ⟨h.sto.below hb, h.turn.trans h.wh (.of_below hb), h.wh, h.box.below hb h.box.lt, h.met.below hb, h.args.below (hb.mono h.sto.bel.size), h.mbs, h.w0s⟩
theorem FillAt.put (h : FillAt k w0 g v W0 kb mb i M D v' W) (hS : Sto w0 g v2 D2 W') (hT : TurnS g v' W W') (hw : Where W v' v2) : FillAt k w0 g v W0 kb mb i M D2 v2 W' := by
  refine ⟨hS, h.turn.trans h.wh hT, h.wh.trans2 hw h.turn.size, h.sto.blk hT h.box (by decide) (by decide), ?_, h.args.below (h.sto.turned hT), h.mbs, h.w0s⟩
  obtain ⟨L, _, hst⟩ := h.sto.ex
  exact h.met.same (hT.block mb h.met.lt (fun e => h.met.ne_blk hst.box e.symm) (fun e => h.met.ne_own hst.rows e.symm))
theorem Sto.mapped {n b : Nat} {f : List UInt8 → Bool} (h : Sto w0 g v D W) (hg : W.grownBy W' (some b)) (hm : SMap W b n f) (hb : w0.heap.size ≤ b) : Sto w0 g v D W' := by
  obtain ⟨L, hL, hS⟩ := h.ex
  have key : ∀ (base s m : Nat) (e : TypeId) (u : Value) (xs : List Value), W.ownsRow base e s u m xs → W'.ownsRow base e s u m xs := fun base s m e u xs ho => own_same ho fun k hk hl => hg.block k hl (fun e => by injection e with e; exact hm.ne_own ho (by rw [hk, e]))
  exact ⟨⟨L, hL, ⟨(hg.block g hS.box.lt (fun e => by injection e with e; exact hm.ne_blk hS.box e)).trans hS.box, key _ _ _ _ _ _ hS.rows, fun x hx => ⟨key _ _ _ _ _ _ (hS.each x hx).set_, key _ _ _ _ _ _ (hS.each x hx).smp_⟩⟩⟩, h.dok, h.bel.grown hg h.bel.size (fun q hq => by injection hq with hq; omega), h.gs, h.vs⟩
theorem FillAt.mapped {f : List (List Lbl)} (h : FillAt k w0 g v W0 kb mb i M D v' W) (hg : W.grownBy W' (some mb)) (hm : SMap W' mb (i + 1) (metF f)) : FillAt k w0 g v W0 kb mb (i + 1) f D v' W' := by
  have hmb := h.mbs; have hw0 := h.w0s
  have hS := h.sto.mapped hg h.met (by omega)
  refine ⟨hS, ⟨hg.os.trans h.turn.os, hg.tape.trans h.turn.tape, hg.output.trans h.turn.output, Nat.le_trans h.turn.size hg.size, fun q hq h1 h2 => (hg.block q (Nat.lt_of_lt_of_le hq h.turn.size) (fun e => by injection e with e; omega)).trans (h.turn.block q hq h1 h2)⟩, h.wh, (hg.block kb h.box.lt (fun e => by injection e with e; exact h.met.ne_blk h.box e)).trans h.box, hm, h.args.below ?_, h.mbs, h.w0s⟩
  exact ⟨hg.os, hg.tape, hg.output, hg.size, fun q hq => hg.block q (by have := h.sto.bel.size; omega) (fun e => by injection e with e; omega)⟩
end
end Go.Proofs.YtlmakdclebbbkaaGreat
