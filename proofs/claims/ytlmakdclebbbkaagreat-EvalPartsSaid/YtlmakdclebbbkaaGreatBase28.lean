/- Texts, merged in one. -/
import Derived.Test.YtlmakdclebbbkaaGreatBase12
import Derived.Test.YtlmakdclebbbkaaGreatBase13
import Derived.Test.YtlmakdclebbbkaaGreatBase20
import Derived.Deep.RegionHeld3
namespace Go.Proofs.YtlmakdclebbbkaaGreat
open Go.ChangeShapes Go.WideShapes Go.ChangeAt Go.RowKit
set_option linter.unusedVariables false
set_option maxRecDepth 100000
theorem own_same {w w' : World} {base : Nat} {e : TypeId} {size n : Nat} {v : Value} {xs : List Value} (h : w.ownsRow base e size v n xs) (hk : ∀ k, v.ownBlock = some k → k < w.heap.size → w'.heap[k]? = w.heap[k]?) : w'.ownsRow base e size v n xs := by
  refine ⟨h.1, ?_⟩
  rcases h.2 with h2 | ⟨g, cap, cur, rfl, hb, hh, rest⟩
  · exact .inl h2
  · exact .inr ⟨g, cap, cur, rfl, hb, (hk g rfl (Array.getElem?_eq_some_iff.1 hh).1).trans hh, rest⟩
theorem own_type {w : World} {base k : Nat} {e : TypeId} {size n : Nat} {v : Value} {xs : List Value} (h : w.ownsRow base e size v n xs) (hv : v.ownBlock = some k) : ∃ cs f, w.heap[k]? = some (.cells cs e f) := by
  rcases h.2 with ⟨rfl, _⟩ | ⟨g, cap, cur, rfl, _, hh, _⟩
  · simp [Value.ownBlock] at hv
  · simp [Value.ownBlock] at hv; subst hv; exact ⟨_, _, hh⟩
theorem own_blk_ne {w : World} {base g : Nat} {e t : TypeId} {size n : Nat} {v : Value} {xs cs : List Value} (h : w.ownsRow base e size v n xs) (hb : Blk w g t cs) (he : e ≠ t) : v.ownBlock ≠ some g := fun hv => by
  obtain ⟨cs2, f, e2⟩ := own_type h hv
  rw [hb.eq] at e2
  injection e2 with e2; injection e2 with _ e2 _
  exact he e2.symm
theorem own_setS {w : World} {base g i : Nat} {e : TypeId} {size n c : Nat} {xs : List Value} (h : w.ownsRow base e size (.slice (some ⟨g, 0, none⟩) n c) n xs) (hi : i < xs.length) (u : Value) :
    (w.setCell ⟨g, i, none⟩ u).ownsRow base e size (.slice (some ⟨g, 0, none⟩) n c) n (xs.set i u) := by
  refine ⟨by rw [List.length_set]; exact h.1, ?_⟩
  rcases h.2 with ⟨h1, _⟩ | ⟨g1, cap, cur, hv, hb, hh, hnc, hcm, hs, ht⟩
  · cases h1
  · injection hv with h1 h2 h3
    injection h1 with h1; injection h1 with h1; subst h1; subst h3
    refine .inr ⟨g, c, cur.setIfInBounds i u, rfl, hb, ?_, hnc, hcm, by simpa using hs, ?_⟩
    · simp [World.setCell, Array.getElem?_modify, hh]
    · rw [Array.toList_setIfInBounds, ← ht, List.take_set]
theorem srs_set (L : List SR) (p : Nat) (u : Value) (q : List (Int × Int)) (h : p < L.length) : (srs L).set (p * 3 + 2) u = srs (L.set p ⟨L[p].sv, L[p].set, u, q⟩) := by
  have e : srs L = srs (L.take p) ++ (srs [L[p]] ++ srs (L.drop (p + 1))) := by
    rw [← srs_append, ← srs_append, List.singleton_append, ← List.drop_eq_getElem_cons h, List.take_append_drop]
  have hl : (srs (L.take p)).length = p * 3 := by rw [srs_length, List.length_take]; omega
  have e2 : L.set p ⟨L[p].sv, L[p].set, u, q⟩ = L.take p ++ ⟨L[p].sv, L[p].set, u, q⟩ :: L.drop (p + 1) := by rw [List.set_eq_take_append_cons_drop, if_pos h]
  rw [e2, srs_append, show (⟨L[p].sv, L[p].set, u, q⟩ : SR) :: L.drop (p + 1) = [⟨L[p].sv, L[p].set, u, q⟩] ++ L.drop (p + 1) from rfl, srs_append, e, List.set_append_right _ _ (by omega), hl, show p * 3 + 2 - p * 3 = 2 by omega]
  rfl
def putE (D : List SK) (l : List Lbl) (x : Int × Int) : Int :=
  if rightS l = false ∨ x.1 < 0 ∨ 1099511627776 < x.1 then 1
  else if placeB D (printL l) = true then addErr (lastT (D.getD (placeN D (printL l)) ([], [])).2) (D.getD (placeN D (printL l)) ([], [])).2.length [x]
  else if 32 ≤ D.length then 8 else 0
def putD (D : List SK) (l : List Lbl) (x : Int × Int) : List SK :=
  if placeB D (printL l) = true then D.set (placeN D (printL l)) ((D.getD (placeN D (printL l)) ([], [])).1, (D.getD (placeN D (printL l)) ([], [])).2 ++ [x]) else D.take (placeN D (printL l)) ++ (l, [x]) :: D.drop (placeN D (printL l))
def putS (D : List SK) (l : List Lbl) (x : Int × Int) : List SK := if putE D l x = 0 then putD D l x else D
def PutAns (g : Nat) (v : Value) (L : List SR) (l : List Lbl) (x : Int × Int) (w : World) (e : Ending) (w' : World) : Prop :=
  ∃ v' L', e = .returned (.int .i64 (putE (keys L) l x)) ∧ keys L' = putS (keys L) l x ∧ StAt g v' L' w' ∧ TurnS g v w w' ∧ Where w v v' ∧ ∀ y ∈ L', (∃ z ∈ L, y.sv = z.sv) ∨ placeB (keys L) (printL l) = false
theorem TurnS.of_below {g : Nat} {v : Value} {w w' : World} (h : Below w.heap.size w w') : TurnS g v w w' := ⟨h.os, h.tape, h.output, h.size, fun k hk _ _ => h.block k hk⟩
theorem putBad {g : Nat} {v : Value} {L : List SR} {l : List Lbl} {x : Int × Int} {w w' : World} {r : Int} (h : StAt g v L w) (he : putE (keys L) l x = r) (hr : r ≠ 0) (hb : Below w.heap.size w w') : PutAns g v L l x w (.returned (.int .i64 r)) w' :=
  ⟨v, L, by rw [he], by unfold putS; rw [he, if_neg hr], h.below hb, .of_below hb, .inl rfl, fun y hy => .inl ⟨y, hy, rfl⟩⟩
structure PutAt (w0 : World) (g bx : Nat) (v : Value) (L : List SR) (tm vl : Int) (W : World) : Prop where
  st : StAt g v L W
  box : Blk W bx 30 [.int .i64 tm, .int .i64 vl]
  bel : Below w0.heap.size w0 W
theorem PutAt.below {w0 W W' : World} {g bx : Nat} {v : Value} {L : List SR} {tm vl : Int} (h : PutAt w0 g bx v L tm vl W) (hb : Below W.heap.size W W') : PutAt w0 g bx v L tm vl W' := ⟨h.st.below hb, h.box.below hb h.box.lt, h.bel.trans (hb.mono h.bel.size)⟩
theorem row_block {g : Nat} {ad : Addr} {n c : Nat} {L : List SR} {w : World} (h : StAt g (.slice (some ad) n c) L w) (i : Nat) : ∃ r, ad = ⟨r, 0, none⟩ ∧ r < w.heap.size ∧ r ≠ g ∧ (ad.add (i * 3)).block = r ∧ (ad.add (i * 3)).off = i * 3 := by
  obtain ⟨_, _, e, _⟩ := own_slice h.rows
  injection e with _ e2 _; subst e2
  obtain ⟨r, er, hlt, _⟩ := own_fr h.rows 0
  refine ⟨r, er, hlt, fun e => ?_, by rw [add_block, er], by rw [er]; unfold Addr.add; split <;> simp_all⟩
  exact own_blk_ne h.rows h.box (by decide) (by rw [er, e]; rfl)
theorem put_add {w W wa : World} {g bx pn m c : Nat} {ad : Addr} {L : List SR} {l : List Lbl} {tm vl : Int} {e : Ending} (H : PutAt w g bx (.slice (some ad) m c) L tm vl W) (hw : StAt g (.slice (some ad) m c) L w) (hp : pn < L.length)
    (haa : AddP L[pn].ss [(tm, vl)] (ad.add (pn * 3)).block ((ad.add (pn * 3)).off + 2) W e wa) (hE : putE (keys L) l (tm, vl) = addErr (lastT L[pn].ss) L[pn].ss.length [(tm, vl)]) (hD : putD (keys L) l (tm, vl) = (keys L).set pn (L[pn].set, L[pn].ss ++ [(tm, vl)])) :
    PutAns g (.slice (some ad) m c) L l (tm, vl) w e wa := by
  obtain ⟨rfl, haa⟩ := haa
  rw [← hE] at haa ⊢
  rcases haa with ⟨hne, hb⟩ | ⟨he, v', w3, hb, rfl, hown⟩
  · exact putBad hw rfl hne (H.bel.trans (hb.mono H.bel.size))
  · obtain ⟨r, er, hlt, hrg, hbl, hof⟩ := row_block H.st pn
    rw [hbl, hof]
    have h3 := H.st.below hb
    have hL : ∀ (u : SR), u.ok w3 → u.ok (w3.setCell ⟨r, pn * 3 + 2, none⟩ v') := fun u hu => by
      have key : ∀ k, (∃ (cs : Array Value) (f : Nat × Nat) (t : TypeId), w3.heap[k]? = some (Obj.cells cs t f) ∧ t ≠ 90) → (w3.setCell ⟨r, pn * 3 + 2, none⟩ v').heap[k]? = w3.heap[k]? := fun k ⟨cs, f, t, e1, e2⟩ => Below.heap_setCell w3 _ _ k (fun e => by
        have e : k = r := e
        obtain ⟨cs2, f2, e3⟩ := own_type h3.rows (k := r) (by rw [er]; rfl)
        rw [e, e3] at e1; injection e1 with e1; injection e1 with _ e1 _; exact e2 e1.symm)
      exact ⟨own_same hu.set_ fun k hk _ => by obtain ⟨cs, f, e1⟩ := own_type hu.set_ hk; exact key k ⟨cs, f, _, e1, by decide⟩, own_same hu.smp_ fun k hk _ => by obtain ⟨cs, f, e1⟩ := own_type hu.smp_ hk; exact key k ⟨cs, f, _, e1, by decide⟩⟩
    refine ⟨.slice (some ad) m c, L.set pn ⟨L[pn].sv, L[pn].set, v', L[pn].ss ++ [(tm, vl)]⟩, rfl, ?_, ⟨h3.box.far (fun e => hrg e.symm) _, ?_, fun x hx => ?_⟩, ⟨?_, ?_, ?_, ?_, fun k hk hkg hkv => ?_⟩, .inl rfl, fun y hy => ?_⟩
    · unfold putS; rw [if_pos he, hD]; simp [keys, List.map_set, SR.key]
    · have h4 := h3.rows
      obtain ⟨_, _, e5, _⟩ := own_slice h4
      injection e5 with _ e5 _; subst e5
      rw [er] at h4
      have h5 := own_setS h4 (i := pn * 3 + 2) (by rw [srs_length]; omega) v'
      rw [srs_set L pn v' (L[pn].ss ++ [(tm, vl)]) hp] at h5
      rw [List.length_set, er]; exact h5
    · rcases List.mem_or_eq_of_mem_set hx with hx | rfl
      · exact hL x (h3.each x hx)
      · exact hL _ ⟨(h3.each _ (List.getElem_mem hp)).set_, own_mono hown (Nat.zero_le _)⟩
    · exact hb.os.trans H.bel.os
    · exact hb.tape.trans H.bel.tape
    · exact hb.output.trans H.bel.output
    · have h1 := hb.size; have h2 := H.bel.size; simp; omega
    · have h2 := H.bel.size
      refine (Below.heap_setCell w3 _ _ k (fun e => ?_)).trans ((hb.block k (by omega)).trans (H.bel.block k hk))
      have e : k = r := e
      exact hkv (by rw [er, e]; rfl)
    · rcases List.mem_or_eq_of_mem_set hy with hy | rfl
      · exact .inl ⟨y, hy, rfl⟩
      · exact .inl ⟨L[pn], List.getElem_mem hp, rfl⟩
theorem put_new {w W wi : World} {g m c n2 c2 : Nat} {A A2 : Option Addr} {L : List SR} {x : SR} {l : List Lbl} {z : Int × Int} {i : Nat} (h : StAt g (.slice A m c) L W) (hx : x.ok W) (hb : Below w.heap.size w W) (hg : g < w.heap.size)
    (hown : wi.ownsRow 0 90 3 (.slice A2 n2 c2) n2 (srs (L.take i ++ x :: L.drop i))) (hn2 : n2 = L.length + 1) (hgr : W.grownBy wi (Value.slice A m c).ownBlock) (hwh : Where W (.slice A m c) (.slice A2 n2 c2))
    (hE : putE (keys L) l z = 0) (hD : putD (keys L) l z = keys (L.take i ++ x :: L.drop i)) (hlen : (L.take i ++ x :: L.drop i).length = L.length + 1) (hB : placeB (keys L) (printL l) = false) :
    PutAns g (.slice A m c) L l z w (.returned (.int .i64 0)) (wi.setCell ⟨g, 0, none⟩ (.slice A2 n2 c2)) := by
  have hvg := own_blk_ne h.rows h.box (by decide)
  have hbox : Blk wi g 81 [.slice A m c] := h.box.grown hgr (fun e => hvg e.symm)
  have hL : ∀ (u : SR), u.ok W → u.ok (wi.setCell ⟨g, 0, none⟩ (.slice A2 n2 c2)) := fun u hu => by
    have key : ∀ (e : TypeId) (s nn : Nat) (vv : Value) (ys : List Value), W.ownsRow 0 e s vv nn ys → e ≠ 90 → e ≠ 81 → (wi.setCell ⟨g, 0, none⟩ (.slice A2 n2 c2)).ownsRow 0 e s vv nn ys := fun e s nn vv ys ho h1 h2 => by
      refine own_same (own_grown ho hgr fun k hk => own_ne ho h.rows h1 k hk) fun k hk _ => Below.heap_setCell wi _ _ k (fun e => ?_)
      have e : k = g := e
      rw [e] at hk
      exact own_blk_ne ho h.box h2 hk
    exact ⟨key _ _ _ _ _ hu.set_ (by decide) (by decide), key _ _ _ _ _ hu.smp_ (by decide) (by decide)⟩
  refine ⟨.slice A2 n2 c2, L.take i ++ x :: L.drop i, by rw [hE], by unfold putS; rw [if_pos hE, hD], ⟨hbox.set 0 _, ?_, fun y hy => hL y ?_⟩, ⟨?_, ?_, ?_, ?_, fun k hk hkg hkv => ?_⟩, ?_, fun y hy => .inr hB⟩
  · rw [hlen, ← hn2]
    exact own_same hown fun k hk _ => Below.heap_setCell wi _ _ k (fun e => by
      have e : k = g := e
      rw [e] at hk
      exact own_blk_ne hown hbox (by decide) hk)
  · rcases List.mem_append.1 hy with hy | hy
    · exact h.each y (List.mem_of_mem_take hy)
    · rcases List.mem_cons.1 hy with rfl | hy
      · exact hx
      · exact h.each y (List.mem_of_mem_drop hy)
  · exact hgr.os.trans hb.os
  · exact hgr.tape.trans hb.tape
  · exact hgr.output.trans hb.output
  · have h1 := hgr.size; have h2 := hb.size; simp; omega
  · have h2 := hb.size
    exact (Below.heap_setCell wi _ _ k hkg).trans ((hgr.block k (by omega) hkv).trans (hb.block k hk))
  · rcases hwh with h1 | h1
    · exact .inl h1
    · exact .inr fun k hk => by have := h1 k hk; have := hb.size; omega
end Go.Proofs.YtlmakdclebbbkaaGreat
