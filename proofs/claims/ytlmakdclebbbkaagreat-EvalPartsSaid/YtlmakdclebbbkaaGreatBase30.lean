/- Texts, merged in one. -/
import Derived.Test.YtlmakdclebbbkaaGreatBase29
import Derived.Test.YtlmakdclebbbkaaGreatBase6
import Derived.Test.YtlmakdclebbbkaaGreatRows
import Derived.Test.YtlmakdclebbbkaaGreatBase7
import Derived.Test.YtlmakdclebbbkaaGreatBase8
import Derived.Test.YtlmakdclebbbkaaGreatBase2
import Derived.Lib.Hide
import Derived.Deep.QuietTactic
import Derived.BigQuiet
import Derived.Test.YtlmakdclebbbkaaGreatBase5
import Derived.Test.YtlmakdclebbbkaaGreatBase
namespace Go.Proofs.YtlmakdclebbbkaaGreat
open Go.ChangeShapes Go.WideShapes Go.ChangeAt Go.RowKit
set_option linter.unusedVariables false
set_option maxRecDepth 100000
structure DOk (D : List SK) : Prop where
  len : D.length ≤ 32
  row : ∀ x ∈ D, rightS x.1 = true ∧ x.2.length ≤ 200 ∧ ∀ y ∈ x.2, 0 ≤ y.1 ∧ y.1 ≤ 1099511627776
  sorted : D.Pairwise fun x y => Op.bytesLess (printL x.1) (printL y.1) = true
theorem DOk.nil : DOk [] := ⟨by simp, by simp, List.Pairwise.nil⟩
theorem placeN_pos {y : SK} {D : List SK} {t : List UInt8} (h : Op.bytesLess (printL y.1) t = true) : placeN (y :: D) t = placeN D t + 1 := by
  unfold placeN; rw [List.takeWhile_cons_of_pos (p := fun x : SK => Op.bytesLess (printL x.1) t) h]; rfl
theorem placeN_neg {y : SK} {D : List SK} {t : List UInt8} (h : Op.bytesLess (printL y.1) t = false) : placeN (y :: D) t = 0 := by
  unfold placeN; rw [List.takeWhile_cons_of_neg (p := fun x : SK => Op.bytesLess (printL x.1) t) (by simp [h])]; rfl
theorem placeB_pos {y : SK} {D : List SK} {t : List UInt8} (h : Op.bytesLess (printL y.1) t = true) : placeB (y :: D) t = placeB D t := by
  unfold placeB; rw [placeN_pos h, List.getElem?_cons_succ]
theorem placeB_neg {y : SK} {D : List SK} {t : List UInt8} (h : Op.bytesLess (printL y.1) t = false) : placeB (y :: D) t = (printL y.1 == t) := by
  unfold placeB; rw [placeN_neg h]; rfl
theorem takeN_less (t : List UInt8) : ∀ (D : List SK), ∀ x ∈ D.take (placeN D t), Op.bytesLess (printL x.1) t = true
  | [], x, hx => by simp at hx
  | y :: D, x, hx => by
    cases h : Op.bytesLess (printL y.1) t with
    | false => rw [placeN_neg h] at hx; simp at hx
    | true =>
      rw [placeN_pos h, List.take_succ_cons] at hx
      rcases List.mem_cons.1 hx with rfl | hx
      · exact h
      · exact takeN_less t D x hx
theorem dropN_more (t : List UInt8) : ∀ (D : List SK), (D.Pairwise fun x y => Op.bytesLess (printL x.1) (printL y.1) = true) → placeB D t = false → ∀ x ∈ D.drop (placeN D t), Op.bytesLess t (printL x.1) = true
  | [], _, _, x, hx => by simp at hx
  | y :: D, hs, hB, x, hx => by
    cases h : Op.bytesLess (printL y.1) t with
    | true =>
      rw [placeN_pos h, List.drop_succ_cons] at hx
      rw [placeB_pos h] at hB
      exact dropN_more t D (List.pairwise_cons.1 hs).2 hB x hx
    | false =>
      rw [placeN_neg h, List.drop_zero] at hx
      rw [placeB_neg h] at hB
      have hne : printL y.1 ≠ t := by simpa using hB
      have hty : Op.bytesLess t (printL y.1) = true := by
        rcases cmp_ne hne with h1 | h1
        · rw [h] at h1; cases h1
        · exact h1
      rcases List.mem_cons.1 hx with rfl | hx
      · exact hty
      · exact less_trans hty ((List.pairwise_cons.1 hs).1 x hx)
theorem placeB_lt {D : List SK} {t : List UInt8} (h : placeB D t = true) : placeN D t < D.length := by
  rcases Nat.lt_or_ge (placeN D t) D.length with h1 | h1
  · exact h1
  · rw [placeB_end rfl h1] at h; cases h
theorem addErr_ok {a : Int} {c : Nat} {x : Int × Int} (h : addErr a c [x] = 0) : 0 ≤ x.1 ∧ x.1 ≤ 1099511627776 ∧ c < 200 := by
  unfold addErr at h
  split at h
  · cases h
  · next h1 =>
    split at h
    · cases h
    · split at h
      · cases h
      · next h3 => omega
theorem DOk.put {D : List SK} (h : DOk D) (l : List Lbl) (x : Int × Int) : DOk (putS D l x) := by
  unfold putS
  by_cases hE : putE D l x = 0
  · rw [if_pos hE]
    unfold putE at hE
    split at hE
    · cases hE
    · next hr =>
      have hR : rightS l = true := by
        cases hq : rightS l with
        | true => rfl
        | false => exact absurd (.inl hq) hr
      have hx : 0 ≤ x.1 ∧ x.1 ≤ 1099511627776 := by
        have h1 : ¬ x.1 < 0 := fun h => hr (.inr (.inl h))
        have h2 : ¬ 1099511627776 < x.1 := fun h => hr (.inr (.inr h))
        omega
      unfold putD
      split at hE
      · next hB =>
        rw [if_pos hB]
        have hlt := placeB_lt hB
        have hgd : D.getD (placeN D (printL l)) ([], []) = D[placeN D (printL l)] := by rw [List.getD_eq_getElem?_getD, List.getElem?_eq_getElem hlt]; rfl
        rw [hgd] at hE ⊢
        have hok := addErr_ok hE
        have hrow := h.row _ (List.getElem_mem hlt)
        refine ⟨by rw [List.length_set]; exact h.len, fun y hy => ?_, ?_⟩
        · rcases List.mem_or_eq_of_mem_set hy with hy | rfl
          · exact h.row y hy
          · refine ⟨hrow.1, by rw [List.length_append, List.length_singleton]; omega, fun z hz => ?_⟩
            rcases List.mem_append.1 hz with hz | hz
            · exact hrow.2.2 z hz
            · rw [List.mem_singleton] at hz; subst hz; exact hx
        · have h1 := h.sorted
          have e : (D.set (placeN D (printL l)) (D[placeN D (printL l)].1, D[placeN D (printL l)].2 ++ [x])).map (fun y => printL y.1) = D.map (fun y => printL y.1) := by
            rw [List.map_set]
            have : printL D[placeN D (printL l)].1 = (D.map fun y => printL y.1)[placeN D (printL l)]'(by rw [List.length_map]; exact hlt) := by simp
            simp only [this, List.set_getElem_self]
          have h2 := (List.pairwise_map (f := fun y : SK => printL y.1) (R := fun a b => Op.bytesLess a b = true)).2 h1
          rw [← e] at h2
          exact List.pairwise_map.1 h2
      · next hB =>
        rw [if_neg hB]
        have hB : placeB D (printL l) = false := by simpa using hB
        split at hE
        · cases hE
        · next h32 =>
          refine ⟨by rw [List.length_append, List.length_take, List.length_cons, List.length_drop]; have := placeN_le D (printL l); omega, fun y hy => ?_, ?_⟩
          · rcases List.mem_append.1 hy with hy | hy
            · exact h.row y (List.mem_of_mem_take hy)
            · rcases List.mem_cons.1 hy with rfl | hy
              · exact ⟨hR, by simp, fun z hz => by rw [List.mem_singleton] at hz; subst hz; exact hx⟩
              · exact h.row y (List.mem_of_mem_drop hy)
          · rw [List.pairwise_append, List.pairwise_cons]
            refine ⟨h.sorted.sublist (List.take_sublist _ _), ⟨fun y hy => dropN_more _ D h.sorted hB y hy, h.sorted.sublist (List.drop_sublist _ _)⟩, fun y hy z hz => ?_⟩
            rcases List.mem_cons.1 hz with rfl | hz
            · exact takeN_less _ D y hy
            · exact less_trans (takeN_less _ D y hy) (dropN_more _ D h.sorted hB z hz)
  · rw [if_neg hE]; exact h
structure Sto (w0 : World) (g : Nat) (v : Value) (D : List SK) (W : World) : Prop where
  ex : ∃ L, keys L = D ∧ StAt g v L W
  dok : DOk D
  bel : Below w0.heap.size w0 W
  gs : w0.heap.size ≤ g
  vs : ∀ k, v.ownBlock = some k → w0.heap.size ≤ k
section
variable {w0 W W' : World} {g : Nat} {v v' : Value} {D D' : List SK}
theorem Sto.below (h : Sto w0 g v D W) (hb : Below W.heap.size W W') : Sto w0 g v D W' := by
  obtain ⟨L, hL, hS⟩ := h.ex
  exact ⟨⟨L, hL, hS.below hb⟩, h.dok, h.bel.trans (hb.mono h.bel.size), h.gs, h.vs⟩
theorem Sto.stays (h : Sto w0 g v D W) : Stays (fun V => Sto w0 g v D V) W := fun _ hb => h.below hb
theorem Sto.lt (h : Sto w0 g v D W) : g < W.heap.size := by obtain ⟨L, _, hS⟩ := h.ex; exact hS.box.lt
theorem Sto.new {w : World} (h : Below w0.heap.size w0 w) : Sto w0 w.heap.size (.slice none 0 0) [] (w.alloc (.cells #[.slice none 0 0] 81)) :=
  ⟨⟨[], rfl, StAt.new w⟩, DOk.nil, h.alloc h.size _, h.size, fun k hk => by simp [Value.ownBlock] at hk⟩
theorem Sto.own (h : Sto w0 g v D W) (hT : TurnS g v W W') {b s n : Nat} {e : TypeId} {u : Value} {xs : List Value} (ho : W.ownsRow b e s u n xs) (h1 : e ≠ 81) (h2 : e ≠ 90) : W'.ownsRow b e s u n xs := by
  obtain ⟨L, _, hS⟩ := h.ex
  refine own_same ho fun k hk hl => hT.block k hl (fun e => ?_) (fun e => ?_)
  · subst e; exact own_blk_ne ho hS.box h1 hk
  · exact own_ne ho hS.rows h2 k hk e.symm
theorem Sto.blk (h : Sto w0 g v D W) (hT : TurnS g v W W') {k : Nat} {e : TypeId} {cs : List Value} (ho : Blk W k e cs) (h1 : e ≠ 81) (h2 : e ≠ 90) : Blk W' k e cs := by
  obtain ⟨L, _, hS⟩ := h.ex
  refine (hT.block k ho.lt (fun e => ?_) (fun e => ?_)).trans ho
  · subst e
    have := hS.box.eq; rw [ho.eq] at this; injection this with this; injection this with _ this _; exact h1 this
  · exact own_blk_ne hS.rows ho (fun e => h2 e.symm) e.symm
theorem Sto.turned (h : Sto w0 g v D W) (hT : TurnS g v W W') : Below w0.heap.size W W' := hT.below h.gs h.vs h.bel.size
theorem Sto.other {w1 : World} {g1 : Nat} {v1 : Value} {D1 : List SK} (h : Sto w0 g v D W) (hT : TurnS g v W W') (h2 : Sto w1 g1 v1 D1 W) (hg : g1 ≠ g) (hv : ∀ k, v1.ownBlock = some k → v.ownBlock ≠ some k) (hb : Below w1.heap.size w1 W') : Sto w1 g1 v1 D1 W' := by
  obtain ⟨L, _, hS⟩ := h.ex
  obtain ⟨L1, hL1, hS1⟩ := h2.ex
  refine ⟨⟨L1, hL1, ?_, ?_, fun x hx => ⟨h.own hT (hS1.each x hx).set_ (by decide) (by decide), h.own hT (hS1.each x hx).smp_ (by decide) (by decide)⟩⟩, h2.dok, hb, h2.gs, h2.vs⟩
  · exact (hT.block g1 hS1.box.lt hg (fun e => own_blk_ne hS.rows hS1.box (by decide) e.symm)).trans hS1.box
  · exact own_same hS1.rows fun k hk hl => hT.block k hl (fun e => by subst e; exact own_blk_ne hS1.rows hS.box (by decide) hk) (fun e => hv k hk e.symm)
end
section
variable {w0 W : World} {g : Nat} {v : Value} {D : List SK}
theorem Sto.rows (h : Sto w0 g v D W) : ∃ L, keys L = D ∧ StAt g v L W ∧ L.length ≤ 32 ∧ ∀ x ∈ L, x.set.length ≤ 6 ∧ x.ss.length ≤ 200 ∧ ∀ y ∈ x.ss, 0 ≤ y.1 ∧ y.1 ≤ 1099511627776 := by
  obtain ⟨L, hL, hS⟩ := h.ex
  refine ⟨L, hL, hS, by rw [← keys_length, hL]; exact h.dok.len, fun x hx => ?_⟩
  have h1 := h.dok.row (x.set, x.ss) (by rw [← hL]; exact List.mem_map.2 ⟨x, hx, rfl⟩)
  exact ⟨rightS_len h1.1, h1.2⟩
theorem Sto.put (h : Sto w0 g v D W) (A0 : Option Addr) (n c0 : Nat) (l : List Lbl) (tm vl : Int) (hl : Sees W W.heap.size 2 A0 n (lbls l)) (hnl : n ≤ 9223372036854775807) :
    Calls Tryz.prog 9 #[.pointer (some ⟨g, 0, none⟩), .slice A0 n c0, .agg #[.int .i64 tm, .int .i64 vl]] W fun e W' => ∃ v', e = .returned (.int .i64 (putE D l (tm, vl))) ∧ Sto w0 g v' (putS D l (tm, vl)) W' ∧ TurnS g v W W' ∧ Where W v v' := by
  obtain ⟨L, rfl, hS, h1, h2⟩ := h.rows
  refine (put_any g v L A0 n c0 l tm vl W hS (by omega) hl hnl (fun x hx => by have := (h2 x hx).2.1; omega)).mono ?_
  rintro e W' ⟨v', L', rfl, hk, hS', hT, hwh, _⟩
  refine ⟨v', rfl, ⟨⟨L', hk, hS'⟩, h.dok.put l _, h.bel.trans (h.turned hT), h.gs, fun k hk => ?_⟩, hT, hwh⟩
  rcases hwh with e | e
  · exact h.vs k (e ▸ hk)
  · have := e k hk; have := h.bel.size; omega
theorem Sto.pick (h : Sto w0 g v D W) (t look : Int) (A2 : Option Addr) (n2 c2 : Nat) (ms : List Mtc) (h2 : Sees W W.heap.size 3 A2 n2 (mtcs ms)) (hn2 : n2 ≤ 9223372036854775807) (ht : -4611686018427387904 ≤ t ∧ t ≤ 4611686018427387903) (hlk : -4611686018427387904 ≤ look ∧ look ≤ 4611686018427387903) :
    Calls Tryz.prog 114 #[.pointer (some ⟨g, 0, none⟩), .int .i64 t, .int .i64 look, .slice A2 n2 c2] W (PtsAns (pickS D t look ms) W) := by
  obtain ⟨L, rfl, hS, h1, h3⟩ := h.rows
  exact spick_any g v L t look A2 n2 c2 ms W hS (by omega) (fun x hx => by have := h3 x hx; omega) h2 hn2 ht hlk
theorem Sto.changes (h : Sto w0 g v D W) (look f t : Int) (A2 : Option Addr) (n2 c2 : Nat) (ms : List Mtc) (h2 : Sees W W.heap.size 3 A2 n2 (mtcs ms)) (hn2 : n2 ≤ 9223372036854775807) (hlk : -1099511627776 ≤ look ∧ look ≤ 1099511627776) :
    Calls Tryz.prog 37 #[.pointer (some ⟨g, 0, none⟩), .int .i64 look, .int .i64 f, .int .i64 t, .slice A2 n2 c2] W (OwnAns 3 1 (chgS D look f t ms).length (ints (chgS D look f t ms)) W) := by
  obtain ⟨L, rfl, hS, h1, h3⟩ := h.rows
  exact schanges_any g v L look f t A2 n2 c2 ms W hS (by omega) (fun x hx => ⟨by have := h3 x hx; omega, by have := h3 x hx; omega, (h3 x hx).2.2⟩) h2 hn2 hlk
end
end Go.Proofs.YtlmakdclebbbkaaGreat

namespace Go.Proofs.YtlmakdclebbbkaaGreat
open Go.ChangeShapes Go.WideShapes Go.ChangeAt Go.RowKit
set_option linter.unusedVariables false
set_option maxRecDepth 100000
def samplesOf : Int → List Int → List (Int × Int)
  | _, [] => []
  | t, z :: zs => (t + nWithin z 1 12, nWithin (z.tdiv 12) (-4) 9) :: samplesOf (t + nWithin z 1 12) zs
def timeOf : Int → List Int → Int
  | t, [] => t
  | t, z :: zs => timeOf (t + nWithin z 1 12) zs
theorem samplesOf_snoc (t : Int) (zs : List Int) (z : Int) : samplesOf t (zs ++ [z]) = samplesOf t zs ++ [(timeOf t zs + nWithin z 1 12, nWithin (z.tdiv 12) (-4) 9)] := by
  induction zs generalizing t with
  | nil => rfl
  | cons y ys ih => simp only [List.cons_append, samplesOf, timeOf, ih]
theorem timeOf_snoc (t : Int) (zs : List Int) (z : Int) : timeOf t (zs ++ [z]) = timeOf t zs + nWithin z 1 12 := by
  induction zs generalizing t with
  | nil => rfl
  | cons y ys ih => simp only [List.cons_append, timeOf, ih]
theorem samplesOf_length (t : Int) (zs : List Int) : (samplesOf t zs).length = zs.length := by
  induction zs generalizing t with
  | nil => rfl
  | cons y ys ih => simp only [samplesOf, List.length_cons, ih]
theorem timeOf_in (t : Int) (zs : List Int) : t ≤ timeOf t zs ∧ timeOf t zs ≤ t + 12 * zs.length := by
  induction zs generalizing t with
  | nil => simp [timeOf]
  | cons y ys ih =>
    have h1 := nWithin_in y (lo := 1) (hi := 12) (by omega)
    have h2 := ih (t + nWithin y 1 12)
    simp only [timeOf, List.length_cons]
    omega
def Rises : Int → Int → List (Int × Int) → Prop
  | _, _, [] => True
  | a, b, x :: xs => a < x.1 ∧ x.1 ≤ b ∧ Rises x.1 b xs
theorem samplesOf_rises (t : Int) (zs : List Int) (b : Int) (hb : t + 12 * zs.length ≤ b) : Rises t b (samplesOf t zs) := by
  induction zs generalizing t with
  | nil => trivial
  | cons y ys ih =>
    have h1 := nWithin_in y (lo := 1) (hi := 12) (by omega)
    simp only [samplesOf, List.length_cons] at hb ⊢
    exact ⟨by simp only; omega, by simp only; omega, ih _ (by omega)⟩
theorem rises_get {a b : Int} {xs : List (Int × Int)} (h : Rises a b xs) (i : Nat) (hi : i < xs.length) : a < xs[i].1 ∧ xs[i].1 ≤ b := by
  induction xs generalizing a i with
  | nil => simp at hi
  | cons x xs ih =>
    obtain ⟨h1, h2, h3⟩ := h
    cases i with
    | zero => exact ⟨h1, h2⟩
    | succ i =>
      have := ih h3 i (by simpa using hi)
      simp only [List.getElem_cons_succ]
      omega
theorem rises_lt {a b : Int} {xs : List (Int × Int)} (h : Rises a b xs) (i j : Nat) (hi : i < j) (hj : j < xs.length) : xs[i].1 < xs[j].1 := by
  induction xs generalizing a i j with
  | nil => simp at hj
  | cons x xs ih =>
    obtain ⟨h1, h2, h3⟩ := h
    cases j with
    | zero => omega
    | succ j =>
      cases i with
      | zero =>
        simp only [List.getElem_cons_zero, List.getElem_cons_succ]
        exact (rises_get h3 j (by simpa using hj)).1
      | succ i =>
        simp only [List.getElem_cons_succ]
        exact ih h3 i j (by omega) (by simpa using hj)
theorem samples_any (A : Option Addr) (n c : Nat) (zs : List Int) (w : World) (hl : Sees w w.heap.size 1 A n (ints zs)) (hz : ∀ z ∈ zs, I64 z) (hn : n ≤ 9223372036854775807) :
    Calls Tryz.prog 41 #[.slice A n c] w (OwnAns 30 2 (min n 20) (smps (samplesOf 0 (zs.take 20))) w) := by
  have H := Lib.hid hl; have HZ := Lib.hid hz
  have HL := Lib.hid hl.int_len
  clear hl hz
  obtain ⟨i0, hi, hz0, hz1, hz2⟩ := info_parts Tryz.infoSmp
  generalize hm : min n 20 = m
  have HM := Lib.hid hm; clear hm
  go_enter Tryz.func41, Tryz.ntmps41
  go_wp2_with fail
  go_loopw [3, 4, 5] (fun v tm j wr => ∃ k : Nat, k ≤ n ∧ k ≤ 20 ∧ j = .int .i64 k ∧ tm = .int .i64 (timeOf 0 (zs.take k)) ∧ wr.ownsRow w.heap.size 30 2 v k (smps (samplesOf 0 (zs.take k))) ∧ Below w.heap.size w wr) (fun _ _ j _ => n - (intOf j).toNat)
  case atStart => exact ⟨0, Nat.zero_le _, Nat.zero_le _, rfl, rfl, by simpa [smps, samplesOf] using World.ownsRow_nil _ _ _ _, Below.refl _ _⟩
  case round =>
    obtain ⟨k, hk, hk20, rfl, rfl, hown, hbel⟩ := hrel
    have hsz := hbel.size
    have HB := Lib.hid hbel; clear hbel
    by_cases hlt : k < n ∧ k < 20
    · obtain ⟨hlt, hlt20⟩ := hlt
      obtain ⟨ad, hkl, rfl, hc⟩ := (H.out.below HB.out).int hlt
      have hI := HZ.out zs[k] (List.getElem_mem _)
      have hT := timeOf_in 0 (zs.take k)
      have hlk : (zs.take k).length = k := by rw [List.length_take]; omega
      rw [hlk] at hT
      have HTK := Lib.hid (List.take_succ_eq_append_getElem hkl)
      have HSN := Lib.hid (samplesOf_snoc 0 (zs.take k) zs[k]); have HTN := Lib.hid (timeOf_snoc 0 (zs.take k) zs[k])
      have HEA : Hid (samplesOf 0 (zs.take (k + 1)) = samplesOf 0 (zs.take k) ++ [(timeOf 0 (zs.take k) + nWithin zs[k] 1 12, nWithin (zs[k].tdiv 12) (-4) 9)] ∧ timeOf 0 (zs.take (k + 1)) = timeOf 0 (zs.take k) + nWithin zs[k] 1 12) := ⟨by rw [HTK.out]; exact HSN.out, by rw [HTK.out]; exact HTN.out⟩
      clear HTK HSN HTN hlk
      have hq := tdiv_in (b := 12) hI (by omega)
      obtain ⟨hx1, hx2⟩ := nWithin_in zs[k] (lo := 1) (hi := 12) (by omega)
      generalize zs[k] = z at *
      generalize timeOf 0 (zs.take k) = t at *
      have HI := Lib.hid hI; have HQ := Lib.hid hq; clear hI
      obtain ⟨hq1, hq2⟩ := hq
      have HLO := Lib.hid hown.lt
      have HO := Lib.hid hown; clear hown
      go_wp2_with fail
      refine (within_any z 1 12 _ HI.out (by omega) (by omega) (by omega)).mono ?_; rintro e w' ⟨rfl, rfl⟩
      go_wp2_with fail
      refine (within_any (z.tdiv 12) (-4) 9 _ HQ.out (by omega) (by omega) (by omega)).mono ?_; rintro e w' ⟨rfl, rfl⟩
      go_wp2_with (at_builtin; refine wpList_append_own _ rfl _ _ 86 rfl w.heap.size 30 i0 (.agg #[.int .i64 0, .int .i64 0]) 2 16 Tryz.underlying86 hi hz0 hz1 hz2 rfl (by decide) _ _ _ rfl (HO.out.alloc _) ⟨wr.heap.size, 0, none⟩ 1 1 [.int .i64 (t + nWithin z 1 12), .int .i64 (nWithin (z.tdiv 12) (-4) 9)] rfl rfl ?c1 ?c2 ?c3 ?c4 ?c5 ?_)
      case c1 =>
        intro j u hj
        match j, hj with
        | 0, hj => simp at hj; subst hj; simp [Addr.add]
        | 1, hj => simp at hj; subst hj; simp [Addr.add]
      case c2 =>
        intro u hu
        simp at hu
        rcases hu with rfl | rfl <;> rfl
      case c3 => unfold maxLen; omega
      case c4 => omega
      case c5 => simp; omega
      intro v' w1 hown' hg _
      have hb := (HB.out.alloc hsz (.cells #[.int .i64 (t + nWithin z 1 12), .int .i64 (nWithin (z.tdiv 12) (-4) 9)] 30)).grown hg (by simp; omega) (fun g hg => (HLO.out g hg).1)
      have hown2 : w1.ownsRow w.heap.size 30 2 v' (k + 1) (smps (samplesOf 0 (zs.take (k + 1)))) := by rw [HEA.out.1, smps_append]; exact hown'
      have HO2 := Lib.hid hown2; have HB2 := Lib.hid hb; clear hown' hown2 hb hg
      go_wp2_with fail
      go_roundw
      case rel => exact ⟨k + 1, by omega, by omega, by go_num, by rw [HEA.out.2], HO2.out, HB2.out⟩
      case measure => simp [intOf]; omega
    · have hge : ¬ ((k : Int) < n ∧ (k : Int) < 20) := by omega
      obtain ⟨A2, c2, rfl, hc3, hc4⟩ := own_slice hown
      have hkm : k = m := by have := HM.out; omega
      have htk : zs.take k = zs.take 20 := by
        have hl := HL.out
        rcases Nat.lt_or_ge k 20 with h | h
        · rw [List.take_of_length_le (by omega), List.take_of_length_le (by omega)]
        · rw [show k = 20 by omega]
      have HO := Lib.hid hown; have HKM := Lib.hid hkm; have HTK := Lib.hid htk; clear hown hkm htk
      by_cases hlt : k < n
      all_goals
        go_wp2_with fail
        go_ret
        exact ownAns (A := A2) (c := c2) (by rw [← HKM.out, ← HTK.out]; exact HO.out) HB.out (by rw [← HKM.out]; rfl) (by rw [← HKM.out]; exact hc3) hc4
end Go.Proofs.YtlmakdclebbbkaaGreat
