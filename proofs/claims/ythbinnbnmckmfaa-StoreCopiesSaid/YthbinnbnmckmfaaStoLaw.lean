/- A store of a law's own: what it holds, its calls. -/
import Derived.Test.YthbinnbnmckmfaaStorePut2
import Derived.Test.YthbinnbnmckmfaaStoreCh
import Derived.Test.YthbinnbnmckmfaaBase2
namespace Go.Proofs.Ythbinnbnmckmfaa
open Go.ChangeShapes Go.WideShapes Go.ChangeAt Go.RowKit
set_option linter.unusedVariables false
set_option maxRecDepth 100000
/-- What a store may hold. -/
structure DOk (D : List SK) : Prop where
  len : D.length ≤ 32
  row : ∀ x ∈ D, rightS x.1 = true ∧ x.2.length ≤ 200 ∧ ∀ y ∈ x.2, 0 ≤ y.1 ∧ y.1 ≤ 1099511627776
  sorted : D.Pairwise fun x y => Op.bytesLess (printL x.1) (printL y.1) = true
theorem DOk.nil : DOk [] := ⟨by simp, by simp, List.Pairwise.nil⟩
theorem placeN_pos {y : SK} {D : List SK} {t : List UInt8} (h : Op.bytesLess (printL y.1) t = true) : placeN (y :: D) t = placeN D t + 1 := by
  unfold placeN; rw [List.takeWhile_cons_of_pos (p := fun x : SK => Op.bytesLess (printL x.1) t) h]; rfl
theorem placeN_neg {y : SK} {D : List SK} {t : List UInt8} (h : Op.bytesLess (printL y.1) t = false) : placeN (y :: D) t = 0 := by
  unfold placeN; rw [List.takeWhile_cons_of_neg (p := fun x : SK => Op.bytesLess (printL x.1) t) (by simp [h])]; rfl
theorem placeB_pos {y : SK} {D : List SK} {t : List UInt8} (h : Op.bytesLess (printL y.1) t = true) : placeB (y :: D) t = placeB D t := by
  unfold placeB; rw [placeN_pos h, List.getElem?_cons_succ]
theorem placeB_neg {y : SK} {D : List SK} {t : List UInt8} (h : Op.bytesLess (printL y.1) t = false) : placeB (y :: D) t = (printL y.1 == t) := by
  unfold placeB; rw [placeN_neg h]; rfl
theorem takeN_less (t : List UInt8) : ∀ (D : List SK), ∀ x ∈ D.take (placeN D t), Op.bytesLess (printL x.1) t = true
  | [], x, hx => by simp at hx
  | y :: D, x, hx => by
    cases h : Op.bytesLess (printL y.1) t with
    | false => rw [placeN_neg h] at hx; simp at hx
    | true =>
      rw [placeN_pos h, List.take_succ_cons] at hx
      rcases List.mem_cons.1 hx with rfl | hx
      · exact h
      · exact takeN_less t D x hx
theorem dropN_more (t : List UInt8) : ∀ (D : List SK), (D.Pairwise fun x y => Op.bytesLess (printL x.1) (printL y.1) = true) → placeB D t = false → ∀ x ∈ D.drop (placeN D t), Op.bytesLess t (printL x.1) = true
  | [], _, _, x, hx => by simp at hx
  | y :: D, hs, hB, x, hx => by
    cases h : Op.bytesLess (printL y.1) t with
    | true =>
      rw [placeN_pos h, List.drop_succ_cons] at hx
      rw [placeB_pos h] at hB
      exact dropN_more t D (List.pairwise_cons.1 hs).2 hB x hx
    | false =>
      rw [placeN_neg h, List.drop_zero] at hx
      rw [placeB_neg h] at hB
      have hne : printL y.1 ≠ t := by simpa using hB
      have hty : Op.bytesLess t (printL y.1) = true := by
        rcases cmp_ne hne with h1 | h1
        · rw [h] at h1; cases h1
        · exact h1
      rcases List.mem_cons.1 hx with rfl | hx
      · exact hty
      · exact less_trans hty ((List.pairwise_cons.1 hs).1 x hx)
theorem placeB_lt {D : List SK} {t : List UInt8} (h : placeB D t = true) : placeN D t < D.length := by
  rcases Nat.lt_or_ge (placeN D t) D.length with h1 | h1
  · exact h1
  · rw [placeB_end rfl h1] at h; cases h
theorem addErr_ok {a : Int} {c : Nat} {x : Int × Int} (h : addErr a c [x] = 0) : 0 ≤ x.1 ∧ x.1 ≤ 1099511627776 ∧ c < 200 := by
  unfold addErr at h
  split at h
  · cases h
  · next h1 =>
    split at h
    · cases h
    · split at h
      · cases h
      · next h3 => omega
theorem DOk.put {D : List SK} (h : DOk D) (l : List Lbl) (x : Int × Int) : DOk (putS D l x) := by
  unfold putS
  by_cases hE : putE D l x = 0
  · rw [if_pos hE]
    unfold putE at hE
    split at hE
    · cases hE
    · next hr =>
      have hR : rightS l = true := by
        cases hq : rightS l with
        | true => rfl
        | false => exact absurd (.inl hq) hr
      have hx : 0 ≤ x.1 ∧ x.1 ≤ 1099511627776 := by
        have h1 : ¬ x.1 < 0 := fun h => hr (.inr (.inl h))
        have h2 : ¬ 1099511627776 < x.1 := fun h => hr (.inr (.inr h))
        omega
      unfold putD
      split at hE
      · next hB =>
        rw [if_pos hB]
        have hlt := placeB_lt hB
        have hgd : D.getD (placeN D (printL l)) ([], []) = D[placeN D (printL l)] := by rw [List.getD_eq_getElem?_getD, List.getElem?_eq_getElem hlt]; rfl
        rw [hgd] at hE ⊢
        have hok := addErr_ok hE
        have hrow := h.row _ (List.getElem_mem hlt)
        refine ⟨by rw [List.length_set]; exact h.len, fun y hy => ?_, ?_⟩
        · rcases List.mem_or_eq_of_mem_set hy with hy | rfl
          · exact h.row y hy
          · refine ⟨hrow.1, by rw [List.length_append, List.length_singleton]; omega, fun z hz => ?_⟩
            rcases List.mem_append.1 hz with hz | hz
            · exact hrow.2.2 z hz
            · rw [List.mem_singleton] at hz; subst hz; exact hx
        · have h1 := h.sorted
          have e : (D.set (placeN D (printL l)) (D[placeN D (printL l)].1, D[placeN D (printL l)].2 ++ [x])).map (fun y => printL y.1) = D.map (fun y => printL y.1) := by
            rw [List.map_set]
            have : printL D[placeN D (printL l)].1 = (D.map fun y => printL y.1)[placeN D (printL l)]'(by rw [List.length_map]; exact hlt) := by simp
            simp only [this, List.set_getElem_self]
          have h2 := (List.pairwise_map (f := fun y : SK => printL y.1) (R := fun a b => Op.bytesLess a b = true)).2 h1
          rw [← e] at h2
          exact List.pairwise_map.1 h2
      · next hB =>
        rw [if_neg hB]
        have hB : placeB D (printL l) = false := by simpa using hB
        split at hE
        · cases hE
        · next h32 =>
          refine ⟨by rw [List.length_append, List.length_take, List.length_cons, List.length_drop]; have := placeN_le D (printL l); omega, fun y hy => ?_, ?_⟩
          · rcases List.mem_append.1 hy with hy | hy
            · exact h.row y (List.mem_of_mem_take hy)
            · rcases List.mem_cons.1 hy with rfl | hy
              · exact ⟨hR, by simp, fun z hz => by rw [List.mem_singleton] at hz; subst hz; exact hx⟩
              · exact h.row y (List.mem_of_mem_drop hy)
          · rw [List.pairwise_append, List.pairwise_cons]
            refine ⟨h.sorted.sublist (List.take_sublist _ _), ⟨fun y hy => dropN_more _ D h.sorted hB y hy, h.sorted.sublist (List.drop_sublist _ _)⟩, fun y hy z hz => ?_⟩
            rcases List.mem_cons.1 hz with rfl | hz
            · exact takeN_less _ D y hy
            · exact less_trans (takeN_less _ D y hy) (dropN_more _ D h.sorted hB z hz)
  · rw [if_neg hE]; exact h
/-- A store of a law's own, made since w0. -/
structure Sto (w0 : World) (g : Nat) (v : Value) (D : List SK) (W : World) : Prop where
  ex : ∃ L, keys L = D ∧ StAt g v L W
  dok : DOk D
  bel : Below w0.heap.size w0 W
  gs : w0.heap.size ≤ g
  vs : ∀ k, v.ownBlock = some k → w0.heap.size ≤ k
section
variable {w0 W W' : World} {g : Nat} {v v' : Value} {D D' : List SK}
theorem Sto.below (h : Sto w0 g v D W) (hb : Below W.heap.size W W') : Sto w0 g v D W' := by
  obtain ⟨L, hL, hS⟩ := h.ex
  exact ⟨⟨L, hL, hS.below hb⟩, h.dok, h.bel.trans (hb.mono h.bel.size), h.gs, h.vs⟩
theorem Sto.stays (h : Sto w0 g v D W) : Stays (fun V => Sto w0 g v D V) W := fun _ hb => h.below hb
theorem Sto.lt (h : Sto w0 g v D W) : g < W.heap.size := by obtain ⟨L, _, hS⟩ := h.ex; exact hS.box.lt
theorem Sto.new {w : World} (h : Below w0.heap.size w0 w) : Sto w0 w.heap.size (.slice none 0 0) [] (w.alloc (.cells #[.slice none 0 0] 63)) :=
  ⟨⟨[], rfl, StAt.new w⟩, DOk.nil, h.alloc h.size _, h.size, fun k hk => by simp [Value.ownBlock] at hk⟩
/-- What a call on the store leaves of other things. -/
theorem Sto.own (h : Sto w0 g v D W) (hT : TurnS g v W W') {b s n : Nat} {e : TypeId} {u : Value} {xs : List Value} (ho : W.ownsRow b e s u n xs) (h1 : e ≠ 63) (h2 : e ≠ 71) : W'.ownsRow b e s u n xs := by
  obtain ⟨L, _, hS⟩ := h.ex
  refine own_same ho fun k hk hl => hT.block k hl (fun e => ?_) (fun e => ?_)
  · subst e; exact own_blk_ne ho hS.box h1 hk
  · exact own_ne ho hS.rows h2 k hk e.symm
theorem Sto.blk (h : Sto w0 g v D W) (hT : TurnS g v W W') {k : Nat} {e : TypeId} {cs : List Value} (ho : Blk W k e cs) (h1 : e ≠ 63) (h2 : e ≠ 71) : Blk W' k e cs := by
  obtain ⟨L, _, hS⟩ := h.ex
  refine (hT.block k ho.lt (fun e => ?_) (fun e => ?_)).trans ho
  · subst e
    have := hS.box.eq; rw [ho.eq] at this; injection this with this; injection this with _ this _; exact h1 this
  · exact own_blk_ne hS.rows ho (fun e => h2 e.symm) e.symm
theorem Sto.turned (h : Sto w0 g v D W) (hT : TurnS g v W W') : Below w0.heap.size W W' := hT.below h.gs h.vs h.bel.size
/-- Another store stays as it is. -/
theorem Sto.other {w1 : World} {g1 : Nat} {v1 : Value} {D1 : List SK} (h : Sto w0 g v D W) (hT : TurnS g v W W') (h2 : Sto w1 g1 v1 D1 W) (hg : g1 ≠ g) (hv : ∀ k, v1.ownBlock = some k → v.ownBlock ≠ some k) (hb : Below w1.heap.size w1 W') : Sto w1 g1 v1 D1 W' := by
  obtain ⟨L, _, hS⟩ := h.ex
  obtain ⟨L1, hL1, hS1⟩ := h2.ex
  refine ⟨⟨L1, hL1, ?_, ?_, fun x hx => ⟨h.own hT (hS1.each x hx).set_ (by decide) (by decide), h.own hT (hS1.each x hx).smp_ (by decide) (by decide)⟩⟩, h2.dok, hb, h2.gs, h2.vs⟩
  · exact (hT.block g1 hS1.box.lt hg (fun e => own_blk_ne hS.rows hS1.box (by decide) e.symm)).trans hS1.box
  · exact own_same hS1.rows fun k hk hl => hT.block k hl (fun e => by subst e; exact own_blk_ne hS1.rows hS.box (by decide) hk) (fun e => hv k hk e.symm)
end
section
variable {w0 W : World} {g : Nat} {v : Value} {D : List SK}
theorem Sto.rows (h : Sto w0 g v D W) : ∃ L, keys L = D ∧ StAt g v L W ∧ L.length ≤ 32 ∧ ∀ x ∈ L, x.set.length ≤ 6 ∧ x.ss.length ≤ 200 ∧ ∀ y ∈ x.ss, 0 ≤ y.1 ∧ y.1 ≤ 1099511627776 := by
  obtain ⟨L, hL, hS⟩ := h.ex
  refine ⟨L, hL, hS, by rw [← keys_length, hL]; exact h.dok.len, fun x hx => ?_⟩
  have h1 := h.dok.row (x.set, x.ss) (by rw [← hL]; exact List.mem_map.2 ⟨x, hx, rfl⟩)
  exact ⟨rightS_len h1.1, h1.2⟩
theorem Sto.put (h : Sto w0 g v D W) (A0 : Option Addr) (n c0 : Nat) (l : List Lbl) (tm vl : Int) (hl : Sees W W.heap.size 2 A0 n (lbls l)) (hnl : n ≤ 9223372036854775807) :
    Calls Try.prog 8 #[.pointer (some ⟨g, 0, none⟩), .slice A0 n c0, .agg #[.int .i64 tm, .int .i64 vl]] W fun e W' => ∃ v', e = .returned (.int .i64 (putE D l (tm, vl))) ∧ Sto w0 g v' (putS D l (tm, vl)) W' ∧ TurnS g v W W' ∧ Where W v v' := by
  obtain ⟨L, rfl, hS, h1, h2⟩ := h.rows
  refine (put_any g v L A0 n c0 l tm vl W hS (by omega) hl hnl (fun x hx => by have := (h2 x hx).2.1; omega)).mono ?_
  rintro e W' ⟨v', L', rfl, hk, hS', hT, hwh, _⟩
  refine ⟨v', rfl, ⟨⟨L', hk, hS'⟩, h.dok.put l _, h.bel.trans (h.turned hT), h.gs, fun k hk => ?_⟩, hT, hwh⟩
  rcases hwh with e | e
  · exact h.vs k (e ▸ hk)
  · have := e k hk; have := h.bel.size; omega
theorem Sto.pick (h : Sto w0 g v D W) (t look : Int) (A2 : Option Addr) (n2 c2 : Nat) (ms : List Mtc) (h2 : Sees W W.heap.size 3 A2 n2 (mtcs ms)) (hn2 : n2 ≤ 9223372036854775807) (ht : -4611686018427387904 ≤ t ∧ t ≤ 4611686018427387903) (hlk : -4611686018427387904 ≤ look ∧ look ≤ 4611686018427387903) :
    Calls Try.prog 9 #[.pointer (some ⟨g, 0, none⟩), .int .i64 t, .int .i64 look, .slice A2 n2 c2] W (PtsAns (pickS D t look ms) W) := by
  obtain ⟨L, rfl, hS, h1, h3⟩ := h.rows
  exact spick_any g v L t look A2 n2 c2 ms W hS (by omega) (fun x hx => by have := h3 x hx; omega) h2 hn2 ht hlk
theorem Sto.changes (h : Sto w0 g v D W) (look f t : Int) (A2 : Option Addr) (n2 c2 : Nat) (ms : List Mtc) (h2 : Sees W W.heap.size 3 A2 n2 (mtcs ms)) (hn2 : n2 ≤ 9223372036854775807) (hlk : -1099511627776 ≤ look ∧ look ≤ 1099511627776) :
    Calls Try.prog 12 #[.pointer (some ⟨g, 0, none⟩), .int .i64 look, .int .i64 f, .int .i64 t, .slice A2 n2 c2] W (OwnAns 3 1 (chgS D look f t ms).length (ints (chgS D look f t ms)) W) := by
  obtain ⟨L, rfl, hS, h1, h3⟩ := h.rows
  exact schanges_any g v L look f t A2 n2 c2 ms W hS (by omega) (fun x hx => ⟨by have := h3 x hx; omega, by have := h3 x hx; omega, (h3 x hx).2.2⟩) h2 hn2 hlk
theorem Sto.sets (h : Sto w0 g v D W) : Calls Try.prog 13 #[.pointer (some ⟨g, 0, none⟩)] W (RowsAns (D.map Prod.fst) W) := by
  obtain ⟨L, rfl, hS, h1, h3⟩ := h.rows
  exact sets_any g v L W hS (by omega) (fun x hx => by have := h3 x hx; omega)
theorem Sto.samples (h : Sto w0 g v D W) (A0 : Option Addr) (n c0 : Nat) (l : List Lbl) (hl : Sees W W.heap.size 2 A0 n (lbls l)) (hnl : n ≤ 9223372036854775807) :
    Calls Try.prog 18 #[.pointer (some ⟨g, 0, none⟩), .slice A0 n c0] W (OwnAns 30 2 (smpF D (printL l)).length (smps (smpF D (printL l))) W) := by
  obtain ⟨L, rfl, hS, h1, h3⟩ := h.rows
  exact ssamples_any g v L A0 n c0 l W hS (by omega) hl hnl (fun x hx => by have := h3 x hx; omega)
theorem Sto.copy (h : Sto w0 g v D W) : Calls Try.prog 17 #[.pointer (some ⟨g, 0, none⟩)] W fun e W' => ∃ q v', e = .returned (.pointer (some ⟨q, 0, none⟩)) ∧ W.heap.size ≤ q ∧ (∀ k, v'.ownBlock = some k → W.heap.size ≤ k) ∧ Sto w0 q v' D W' ∧ Below W.heap.size W W' := by
  obtain ⟨L, rfl, hS, h1, h3⟩ := h.rows
  refine (copy_any g v L W hS (by omega)).mono ?_
  rintro e W' ⟨q, v', hq, hv, rfl, hS', hb⟩
  have := h.bel.size
  exact ⟨q, v', rfl, hq, hv, ⟨⟨L, rfl, hS'⟩, h.dok, h.bel.trans (hb.mono h.bel.size), by omega, fun k hk => by have := hv k hk; omega⟩, hb⟩
end
end Go.Proofs.Ythbinnbnmckmfaa
