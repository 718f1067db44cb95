/- klaxonlaw8.small: an expression cut to few floors and short rows. -/
import Derived.Test.YtcaapbbbekggiaaGreatDoorCloneAny
import Derived.Test.YtcaapbbbekggiaaGreatDoorSzX
import Derived.Test.YtcaapbbbekggiaaGreatDoorBase
namespace Go.Proofs.YtcaapbbbekggiaaGreatDoor
open Go.ChangeShapes Go.WideShapes Go.ChangeAt Go.RowKit
set_option linter.unusedVariables false
set_option linter.unusedSimpArgs false
set_option maxRecDepth 100000
/-- Short rows, floor by floor. -/
def tinyX : Nat → XE → Prop
  | 0, _ => True
  | d + 1, x => x.ms.length ≤ 7 ∧ x.ns.length ≤ 7 ∧ x.kids.length ≤ 3 ∧ ∀ k ∈ x.kids, tinyX d k
/-- What lies below a bound stays whatever becomes of the rest. -/
theorem slc_far {S : Nat → Prop} {w : World} {size n : Nat} {v : Value} {xs : List Value} (h : Slc w size v n xs) (hS : ∀ b, b < w.heap.size → ¬ S b) : FarS S (fun W => Slc W size v n xs) w := fun V hs hk => by
  obtain ⟨A, c, h1, h2, h3⟩ := h
  refine ⟨A, c, h1, (h2.keep (w' := V) (fun p hp => ?_)).more hs, h3⟩
  unfold World.cell?
  rw [hk p.block hp (hS _ hp)]
theorem okX_farS {S : Nat → Prop} {w : World} (hS : ∀ b, b < w.heap.size → ¬ S b) : ∀ (d : Nat) (x : XE), okX d x w → FarS S (okX d x) w
  | 0, _, h => h.elim
  | d + 1, x, h => fun V hs hk => ⟨slc_far h.1 hS V hs hk, slc_far h.2.1 hS V hs hk, slc_far h.2.2.1 hS V hs hk, fun k hm => okX_farS hS d k (h.2.2.2 k hm) V hs hk⟩
theorem slc_take {w : World} {size n k c : Nat} {A : Option Addr} {xs : List Value} (h : Slc w size (.slice A n c) n xs) (hk : k ≤ n) : Slc w size (.slice A k c) k (xs.take (k * size)) := by
  obtain ⟨A', c', e, h2, h3, h4⟩ := h
  injection e with e1 e2 e3
  subst e1; subst e3
  exact ⟨A, c, rfl, h2.take hk, by omega, h4⟩
/-- The box and the answer's cell. -/
structure S1At (w0 : World) (b2 b4 : Nat) (cs : List Value) (w : World) : Prop where
  box : Blk w b2 26 cs
  res : Blk w b4 26 [.int .i64 0, .int .i64 0, .slice none 0 0, .slice none 0 0, .slice none 0 0]
  bel : Below w0.heap.size w0 w
  lt : w0.heap.size ≤ b2 ∧ b2 < b4
theorem S1At.below {w0 w w' : World} {b2 b4 : Nat} {cs : List Value} (h : S1At w0 b2 b4 cs w) (hb : Below w.heap.size w w') : S1At w0 b2 b4 cs w' :=
  ⟨h.box.below hb h.box.lt, h.res.below hb h.res.lt, h.bel.trans (hb.mono h.bel.size), h.lt⟩
theorem S1At.set {w0 w : World} {b2 b4 : Nat} {cs : List Value} (h : S1At w0 b2 b4 cs w) (i : Nat) (u : Value) : S1At w0 b2 b4 (cs.set i u) (w.setCell ⟨b2, i, none⟩ u) :=
  ⟨h.box.set i u, h.res.far (by show b4 ≠ b2; have := h.lt; omega) _, h.bel.setCell (p := ⟨b2, i, none⟩) h.lt.1 _, h.lt⟩
/-- Within small's loop. -/
structure SmAt (S0 : Nat → Prop) (w0 : World) (b2 b4 : Nat) (cs : List Value) (d : Nat) (L : List XE) (X : Option Addr) (cx : Nat) (w : World) : Prop where
  s1 : S1At w0 b2 b4 cs w
  row : w.ownsRow (b4 + 1) 26 5 (.slice X L.length cx) L.length (kcells L)
  kids : ∀ q ∈ L, FarS (fun b => S0 b ∧ b ≤ b4 ∨ (Value.slice X L.length cx).ownBlock = some b) (okX d q) w
  tiny : ∀ q ∈ L, tinyX d q ∧ szX d q
  new : ∀ b, w0.heap.size ≤ b → S0 b
section
variable {S0 : Nat → Prop} {w0 w w' w7 : World} {b2 b4 d cx c' : Nat} {cs : List Value} {L : List XE} {X X' : Option Addr} {q : XE}
theorem SmAt.below (h : SmAt S0 w0 b2 b4 cs d L X cx w) (hb : Below w.heap.size w w') : SmAt S0 w0 b2 b4 cs d L X cx w' :=
  ⟨h.s1.below hb, own_below h.row hb (Nat.le_refl _), fun q hq => (h.kids q hq).below hb, h.tiny, h.new⟩
theorem SmAt.more (h : SmAt S0 w0 b2 b4 cs d L X cx w) (hq : FarS (fun b => S0 b ∧ b ≤ b4 ∨ (Value.slice X L.length cx).ownBlock = some b) (okX d q) w) (hqt : tinyX d q ∧ szX d q)
    (hown : w7.ownsRow (b4 + 1) 26 5 (.slice X' (L.length + 1) c') (L.length + 1) (kcells L ++ kcells [q]))
    (hgr : w.grownBy w7 (Value.slice X L.length cx).ownBlock) (hwh : Where w (.slice X L.length cx) (.slice X' (L.length + 1) c')) : SmAt S0 w0 b2 b4 cs d (L ++ [q]) X' c' w7 := by
  have hX : ∀ g, (Value.slice X L.length cx).ownBlock = some g → b4 + 1 ≤ g := fun g hg => (h.row.lt g hg).1
  have hlen : (L ++ [q]).length = L.length + 1 := by simp
  have hlt := h.s1.lt
  have h4 := h.s1.res.lt
  have hkid : ∀ x, FarS (fun b => S0 b ∧ b ≤ b4 ∨ (Value.slice X L.length cx).ownBlock = some b) (okX d x) w → FarS (fun b => S0 b ∧ b ≤ b4 ∨ (Value.slice X' (L ++ [q]).length c').ownBlock = some b) (okX d x) w7 := fun x hx => by
    refine hx.next hgr.size (fun b hb hn => hgr.block b hb (fun e => hn (.inr e.symm))) (fun b hb hS => ?_)
    rw [hlen] at hS
    rcases hS with hS | hS
    · exact .inl hS
    · rcases hwh with hw | hw
      · exact .inr (hw.symm.trans hS)
      · exact absurd (hw b hS) (by omega)
  refine ⟨⟨h.s1.box.grown hgr (fun e => by have := hX b2 e.symm; omega), h.s1.res.grown hgr (fun e => by have := hX b4 e.symm; omega), h.s1.bel.grown hgr h.s1.bel.size (fun g hg => by have h1 := hX g hg; omega), hlt⟩, ?_, fun x hx => ?_, fun x hx => ?_, h.new⟩
  · rw [hlen, kcells_append]; exact hown
  · rcases List.mem_append.1 hx with hx | hx
    · exact hkid x (h.kids x hx)
    · rw [List.mem_singleton] at hx; subst hx; exact hkid _ hq
  · rcases List.mem_append.1 hx with hx | hx
    · exact h.tiny x hx
    · rw [List.mem_singleton] at hx; subst hx; exact hqt
theorem SmAt.tree {kk nn : Int} {A1 A2 : Option Addr} {m1 m2 c1 c2 : Nat} {ms : List Mtc} {ns : List ByteArray} (h : SmAt S0 w0 b2 b4 cs d L X cx w)
    (hm : FarS S0 (fun W => Slc W 3 (.slice A1 m1 c1) ms.length (mtcs ms)) w) (hn : FarS S0 (fun W => Slc W 1 (.slice A2 m2 c2) ns.length (strs ns)) w) (hs : w.heap.size ≤ w'.heap.size) (hw : ∀ b, b < w.heap.size → b ≠ b2 → b ≠ b4 → w'.heap[b]? = w.heap[b]?) :
    FarS (fun b => S0 b ∧ b < w0.heap.size) (okX (d + 1) (.mk kk nn (.slice A1 m1 c1) ms (.slice A2 m2 c2) ns (.slice X L.length cx) L)) w' := fun V hVs hVk => by
  have hlt := h.s1.lt
  have hX : ∀ g, (Value.slice X L.length cx).ownBlock = some g → b4 + 1 ≤ g ∧ g < w.heap.size := fun g hg => h.row.lt g hg
  have hk : ∀ b, b < w.heap.size → b ≠ b2 → b ≠ b4 → ¬ (S0 b ∧ b < w0.heap.size) → V.heap[b]? = w.heap[b]? := fun b hb h2 h4 hnn => (hVk b (by omega) hnn).trans (hw b hb h2 h4)
  refine ⟨hm V (by omega) (fun b hb hnn => hk b hb (fun e => hnn (h.new b (by omega))) (fun e => hnn (h.new b (by omega))) (fun e => hnn e.1)), hn V (by omega) (fun b hb hnn => hk b hb (fun e => hnn (h.new b (by omega))) (fun e => hnn (h.new b (by omega))) (fun e => hnn e.1)), ?_, fun x hx => (h.kids x hx) V (by omega) (fun b hb hnn => hk b hb (fun e => hnn (.inl ⟨h.new b (by omega), by omega⟩)) (fun e => hnn (.inl ⟨h.new b (by omega), by omega⟩)) (fun e => hnn (.inl ⟨e.1, by omega⟩)))⟩
  obtain ⟨X', cx', h1, h2, h3⟩ := own_slice h.row
  injection h1 with h1 _ h4; subst h1; subst h4
  refine ⟨X, cx, rfl, ?_, h2, h3⟩
  have hs2 := Sees.of_own h.row
  refine ⟨hs2.len, fun hp => ?_⟩
  obtain ⟨ad, e, hl, hc⟩ := hs2.at_ hp
  refine ⟨ad, e, by omega, fun j u hj => ?_⟩
  have hcc := hc j u hj
  have hbl := h.row.lt ad.block (by subst e; rfl)
  have hh := hk ad.block hbl.2 (by omega) (by omega) (fun e => by have := e.2; omega)
  unfold World.cell? at hcc ⊢
  rw [add_block] at hcc ⊢
  rw [hh]; exact hcc
end
def SmallAns (S0 : Nat → Prop) (n : Nat) (w : World) (e : Ending) (w' : World) : Prop := ∃ y : XE, e = .returned y.val ∧ FarS (fun b => S0 b ∧ b < w.heap.size) (okX (n + 1) y) w' ∧ tinyX (n + 1) y ∧ szX (n + 1) y ∧ Below w.heap.size w w'
def SmallSaid (S0 : Nat → Prop) (n : Nat) : Prop := ∀ (d : Nat) (x : XE) (w : World), FarS S0 (okX d x) w → szX d x → (∀ b, w.heap.size ≤ b → S0 b) → Calls Tryz.prog 4 #[x.val, .int .i64 n] w (SmallAns S0 n w)
set_option maxHeartbeats 8000000 in
theorem small_step (S0 : Nat → Prop) (n : Nat) (hn4 : n ≤ 4) (IH : ∀ m, m + 1 = n → SmallSaid S0 m) : SmallSaid S0 n := by
  intro d0 x w hfar hsz hnew
  obtain ⟨d, rfl⟩ : ∃ d, d0 = d + 1 := by
    cases d0 with
    | zero => exact hfar.now.elim
    | succ d => exact ⟨d, rfl⟩
  obtain ⟨A1, c1, A2, c2, A3, c3, e1, e2, e3⟩ := okX_forms hfar.now
  obtain ⟨kk, nn, mv, ms, nv, ns, kv, ks⟩ := x
  simp only [XE.mv, XE.nv, XE.kv, XE.ms, XE.ns, XE.kids] at e1 e2 e3
  subst e1; subst e2; subst e3
  obtain ⟨hI, hzm, hzn, hzk⟩ := hsz
  simp only [XE.n, XE.ms, XE.ns, XE.kids] at hI hzm hzn hzk
  have hfm : FarS S0 (fun W => Slc W 3 (.slice A1 ms.length c1) ms.length (mtcs ms)) w := fun V hs hk => (hfar V hs hk).1
  have hfn : FarS S0 (fun W => Slc W 1 (.slice A2 ns.length c2) ns.length (strs ns)) w := fun V hs hk => (hfar V hs hk).2.1
  have hfk : FarS S0 (fun W => Slc W 5 (.slice A3 ks.length c3) ks.length (kcells ks)) w := fun V hs hk => (hfar V hs hk).2.2.1
  have hfo : ∀ k ∈ ks, FarS S0 (okX d k) w := fun k hkm V hs hk => (hfar V hs hk).2.2.2 k hkm
  obtain ⟨_, y2, y4⟩ := Slc.slice hfm.now
  obtain ⟨_, x2, x4⟩ := Slc.slice hfn.now
  obtain ⟨m1, hm1⟩ : ∃ m : Nat, min ms.length 7 = m := ⟨_, rfl⟩
  obtain ⟨m2, hm2⟩ : ∃ m : Nat, min ns.length 7 = m := ⟨_, rfl⟩
  have HF1 := Lib.hid (show FarS S0 (fun W => Slc W 3 (.slice A1 m1 c1) (ms.take m1).length (mtcs (ms.take m1))) w from fun V hs hk => by
    have h := slc_take (k := m1) (hfm V hs hk) (by omega)
    rw [mtcs_take] at h
    rw [show (ms.take m1).length = m1 by rw [List.length_take]; omega]; exact h)
  have HF2 := Lib.hid (show FarS S0 (fun W => Slc W 1 (.slice A2 m2 c2) (ns.take m2).length (strs (ns.take m2))) w from fun V hs hk => by
    have h := slc_take (k := m2) (hfn V hs hk) (by omega)
    rw [show (strs ns).take (m2 * 1) = strs (ns.take m2) by rw [Nat.mul_one]; simp [strs, List.map_take]] at h
    rw [show (ns.take m2).length = m2 by rw [List.length_take]; omega]; exact h)
  have HFK := Lib.hid hfk
  have HFO := Lib.hid hfo
  have HZK := Lib.hid hzk
  have HSZ := Lib.hid (show I64 nn ∧ (∀ m ∈ ms.take m1, m.1.size ≤ 9223372036854775807 ∧ m.2.1.size ≤ 9223372036854775807) ∧ (∀ s ∈ ns.take m2, s.size ≤ maxLen) from ⟨hI, fun m hm => hzm m (List.mem_of_mem_take hm), fun s hs => hzn s (List.mem_of_mem_take hs)⟩)
  have HTN := Lib.hid (show (ms.take m1).length ≤ 7 ∧ (ns.take m2).length ≤ 7 from ⟨by rw [List.length_take]; omega, by rw [List.length_take]; omega⟩)
  have HNW := Lib.hid hnew
  have HIH := Lib.hid IH
  obtain ⟨lm, hlm⟩ : ∃ l, ms.length = l := ⟨_, rfl⟩
  obtain ⟨ln, hln⟩ : ∃ l, ns.length = l := ⟨_, rfl⟩
  obtain ⟨N, hN⟩ : ∃ l, ks.length = l := ⟨_, rfl⟩
  rw [hlm] at hm1 y2; rw [hln] at hm2 x2; rw [hN] at HFK
  have HN := Lib.hid hN
  generalize ms.take m1 = ms1 at *
  generalize ns.take m2 = ns1 at *
  show Calls _ _ #[.agg #[.int .i64 kk, .int .i64 nn, .slice A1 ms.length c1, .slice A2 ns.length c2, .slice A3 ks.length c3], .int .i64 n] _ _
  rw [hlm, hln, hN]
  clear hfar hI hzm hzn hzk hfm hfn hfk hfo hnew IH hlm hln hN
  have y1 : (m1 : Int) ≤ lm := by omega
  have y3 : (m1 : Int) ≤ c1 := by omega
  have x1 : (m2 : Int) ≤ ln := by omega
  have x3 : (m2 : Int) ≤ c2 := by omega
  have hm1 : min (lm : Int) 7 = (m1 : Int) := by omega
  have hm2 : min (ln : Int) 7 = (m2 : Int) := by omega
  obtain ⟨b2, hb2⟩ : ∃ b, w.heap.size = b := ⟨_, rfl⟩
  obtain ⟨b4, hb4⟩ : ∃ b, b2 + 1 = b := ⟨_, rfl⟩
  have HS0 : Hid (S1At w b2 b4 [.int .i64 kk, .int .i64 nn, .slice A1 lm c1, .slice A2 ln c2, .slice A3 N c3] ((w.alloc (.cells #[.int .i64 kk, .int .i64 nn, .slice A1 lm c1, .slice A2 ln c2, .slice A3 N c3] 26)).alloc (.cells #[.int .i64 0, .int .i64 0, .slice none 0 0, .slice none 0 0, .slice none 0 0] 26))) := Lib.hid (by
    subst hb2; subst hb4
    refine ⟨(Blk.mk (heap_alloc_new w _) : Blk _ w.heap.size 26 _).alloc _, ?_, ((Below.refl _ w).alloc (Nat.le_refl _) _).alloc (by simp) _, Nat.le_refl _, Nat.lt_succ_self _⟩
    have h := heap_alloc_new (w.alloc (.cells #[.int .i64 kk, .int .i64 nn, .slice A1 lm c1, .slice A2 ln c2, .slice A3 N c3] 26)) (.cells #[.int .i64 0, .int .i64 0, .slice none 0 0, .slice none 0 0, .slice none 0 0] 26)
    rw [show (w.alloc (.cells #[.int .i64 kk, .int .i64 nn, .slice A1 lm c1, .slice A2 ln c2, .slice A3 N c3] 26)).heap.size = w.heap.size + 1 by simp] at h
    exact Blk.mk h)
  have HB2 := Lib.hid hb2; have HB4 := Lib.hid hb4
  clear hb2 hb4
  go_enter Tryz.func4, Tryz.ntmps4
  go_upto_region 1 with fail
  rw [HB2.out, HB4.out]
  generalize (w.alloc (.cells #[.int .i64 kk, .int .i64 nn, .slice A1 lm c1, .slice A2 ln c2, .slice A3 N c3] 26)).alloc (.cells #[.int .i64 0, .int .i64 0, .slice none 0 0, .slice none 0 0, .slice none 0 0] 26) = W1 at *
  have HSD := Lib.hid (HS0.out.below (Below.refl _ _).drew)
  obtain ⟨wd, hwd⟩ : ∃ W : World, { W1 with drawn := W1.drawn + 1 } = W := ⟨_, rfl⟩
  have HS1 := Lib.hid (show S1At w b2 b4 [.int .i64 kk, .int .i64 nn, .slice A1 lm c1, .slice A2 ln c2, .slice A3 N c3] wd from by rw [← hwd]; exact HSD.out)
  have z2 := HS1.out.box.cell 2
  have f2 := HS1.out.box.frozen 2
  have z3 := HS1.out.box.cell 3
  have f3 := HS1.out.box.frozen 3
  simp only [List.getElem?_cons_zero, List.getElem?_cons_succ] at z2 z3
  have HS3 := Lib.hid (show S1At w b2 b4 [.int .i64 kk, .int .i64 nn, .slice A1 m1 c1, .slice A2 m2 c2, .slice A3 N c3] ((wd.setCell ⟨b2, 2, none⟩ (.slice A1 m1 c1)).setCell ⟨b2, 3, none⟩ (.slice A2 m2 c2)) from (HS1.out.set 2 (.slice A1 m1 c1)).set 3 (.slice A2 m2 c2))
  clear HS0 HSD
  refine wp_region_writes (I := fun L W => W = (if L 17 = true then ((wd.setCell ⟨b2, 2, none⟩ (.slice A1 m1 c1)).setCell ⟨b2, 3, none⟩ (.slice A2 m2 c2)) else if L 15 = true then (wd.setCell ⟨b2, 2, none⟩ (.slice A1 m1 c1)) else wd)) (V := fun i' u' => match i' with | 0 => u' = .pointer (some ⟨b2, 2, none⟩) | 1 => u' = .slice A1 lm c1 | 2 => u' = .pointer (some ⟨b2, 2, none⟩) | 3 => u' = .slice A1 lm c1 | 4 => u' = .int .i64 lm | 5 => u' = .int .i64 m1 | 6 => u' = .slice A1 m1 c1 | 7 => u' = .pointer (some ⟨b2, 3, none⟩) | 8 => u' = .slice A2 ln c2 | 9 => u' = .pointer (some ⟨b2, 3, none⟩) | 10 => u' = .slice A2 ln c2 | 11 => u' = .int .i64 ln | 12 => u' = .int .i64 m2 | 13 => u' = .slice A2 m2 c2 | 14 => u' = .pointer (some ⟨b2, 2, none⟩) | 15 => True | 16 => u' = .pointer (some ⟨b2, 3, none⟩) | 17 => True | _ => True) (by kernel_rfl) (by kernel_rfl) (by kernel_rfl) ?hI ⟨?o0, ?o1, ?o2, ?o3, ?o4, ?o5, ?o6, ?o7, ?o8, ?o9, ?o10, ?o11, ?o12, ?o13, ?o14, ?o15, ?o16, ?o17, trivial⟩ ?hend
  case o0 =>
    intro a w L hfr hI hs hd
    have s2 : a.tmps.getD 2 undef = .pointer (some ⟨b2, 0, none⟩) := hfr.at 2 (by kernel_rfl)
    refine ⟨fun hw => ?_, fun hw => absurd hw (by simp [Region.wanted])⟩
    refine opw_yields (w' := w) (.pointer (some ⟨b2, 2, none⟩)) ?_ rfl ?_
    · simp only [execOp, resolve, List.map_toArray, List.map_cons, List.map_nil, Act.eval, s2]; simp [go_sem, -Array.getD_eq_getD_getElem?, s2]
    · simpa [upd] using hI
  case o1 =>
    intro a w L hfr hI hs hd
    obtain ⟨d0, _⟩ := hd
    have s7 : a.tmps.getD 7 undef = .pointer (some ⟨b2, 2, none⟩) := d0 rfl
    refine ⟨fun hw => ?_, fun hw => absurd hw (by simp [Region.wanted])⟩
    have q15 : L 15 = false := hs.not hs.self 15 (by kernel_rfl)
    have q17 : L 17 = false := hs.not q15 17 (by kernel_rfl)
    have hw0 : w = wd := by have h := hI; simpa only [q15, q17, if_true, if_false, Bool.false_eq_true] using h
    refine opw_yields (w' := w) (.slice A1 lm c1) ?_ rfl ?_
    · rw [hw0]; simp only [execOp, resolve, List.map_toArray, List.map_cons, List.map_nil, Act.eval, s7]; simp [go_sem, -Array.getD_eq_getD_getElem?, s7, z2]
    · simpa [upd] using hI
  case o2 =>
    intro a w L hfr hI hs hd
    have s2 : a.tmps.getD 2 undef = .pointer (some ⟨b2, 0, none⟩) := hfr.at 2 (by kernel_rfl)
    refine ⟨fun hw => ?_, fun hw => absurd hw (by simp [Region.wanted])⟩
    refine opw_yields (w' := w) (.pointer (some ⟨b2, 2, none⟩)) ?_ rfl ?_
    · simp only [execOp, resolve, List.map_toArray, List.map_cons, List.map_nil, Act.eval, s2]; simp [go_sem, -Array.getD_eq_getD_getElem?, s2]
    · simpa [upd] using hI
  case o3 =>
    intro a w L hfr hI hs hd
    obtain ⟨d0, _⟩ := hd
    have s9 : a.tmps.getD 9 undef = .pointer (some ⟨b2, 2, none⟩) := d0 rfl
    refine ⟨fun hw => ?_, fun hw => absurd hw (by simp [Region.wanted])⟩
    have q15 : L 15 = false := hs.not hs.self 15 (by kernel_rfl)
    have q17 : L 17 = false := hs.not q15 17 (by kernel_rfl)
    have hw0 : w = wd := by have h := hI; simpa only [q15, q17, if_true, if_false, Bool.false_eq_true] using h
    refine opw_yields (w' := w) (.slice A1 lm c1) ?_ rfl ?_
    · rw [hw0]; simp only [execOp, resolve, List.map_toArray, List.map_cons, List.map_nil, Act.eval, s9]; simp [go_sem, -Array.getD_eq_getD_getElem?, s9, z2]
    · simpa [upd] using hI
  case o4 =>
    intro a w L hfr hI hs hd
    obtain ⟨d0, _⟩ := hd
    have s10 : a.tmps.getD 10 undef = .slice A1 lm c1 := d0 rfl
    refine ⟨fun hw => ?_, fun hw => absurd hw (by simp [Region.wanted])⟩
    refine opw_yields (w' := w) (.int .i64 lm) ?_ rfl ?_
    · simp only [execOp, resolve, List.map_toArray, List.map_cons, List.map_nil, Act.eval, s10]; simp [go_sem, -Array.getD_eq_getD_getElem?, s10]
    · simpa [upd] using hI
  case o5 =>
    intro a w L hfr hI hs hd
    obtain ⟨d0, _⟩ := hd
    have s11 : a.tmps.getD 11 undef = .int .i64 lm := d0 rfl
    refine ⟨fun hw => ?_, fun hw => absurd hw (by simp [Region.wanted])⟩
    refine opw_yields (w' := w) (.int .i64 m1) ?_ rfl ?_
    · simp only [execOp, resolve, List.map_toArray, List.map_cons, List.map_nil, Act.eval, s11]; simp [go_sem, -Array.getD_eq_getD_getElem?, s11, hm1]
    · simpa [upd] using hI
  case o6 =>
    intro a w L hfr hI hs hd
    obtain ⟨d0, d1, _⟩ := hd
    have s8 : a.tmps.getD 8 undef = .slice A1 lm c1 := d0 rfl
    have s12 : a.tmps.getD 12 undef = .int .i64 m1 := d1 rfl
    refine ⟨fun hw => ?_, fun hw => absurd hw (by simp [Region.wanted])⟩
    refine opw_yields (w' := w) (.slice A1 m1 c1) ?_ rfl ?_
    · simp only [execOp, resolve, List.map_toArray, List.map_cons, List.map_nil, Act.eval, s8, s12]; simp [go_sem, -Array.getD_eq_getD_getElem?, s8, s12, y1, y2, y3]
    · simpa [upd] using hI
  case o7 =>
    intro a w L hfr hI hs hd
    have s2 : a.tmps.getD 2 undef = .pointer (some ⟨b2, 0, none⟩) := hfr.at 2 (by kernel_rfl)
    refine ⟨fun hw => ?_, fun hw => absurd hw (by simp [Region.wanted])⟩
    refine opw_yields (w' := w) (.pointer (some ⟨b2, 3, none⟩)) ?_ rfl ?_
    · simp only [execOp, resolve, List.map_toArray, List.map_cons, List.map_nil, Act.eval, s2]; simp [go_sem, -Array.getD_eq_getD_getElem?, s2]
    · simpa [upd] using hI
  case o8 =>
    intro a w L hfr hI hs hd
    obtain ⟨d0, _⟩ := hd
    have s14 : a.tmps.getD 14 undef = .pointer (some ⟨b2, 3, none⟩) := d0 rfl
    refine ⟨fun hw => ?_, fun hw => absurd hw (by simp [Region.wanted])⟩
    have q15 : L 15 = false := hs.not hs.self 15 (by kernel_rfl)
    have q17 : L 17 = false := hs.not q15 17 (by kernel_rfl)
    have hw0 : w = wd := by have h := hI; simpa only [q15, q17, if_true, if_false, Bool.false_eq_true] using h
    refine opw_yields (w' := w) (.slice A2 ln c2) ?_ rfl ?_
    · rw [hw0]; simp only [execOp, resolve, List.map_toArray, List.map_cons, List.map_nil, Act.eval, s14]; simp [go_sem, -Array.getD_eq_getD_getElem?, s14, z3]
    · simpa [upd] using hI
  case o9 =>
    intro a w L hfr hI hs hd
    have s2 : a.tmps.getD 2 undef = .pointer (some ⟨b2, 0, none⟩) := hfr.at 2 (by kernel_rfl)
    refine ⟨fun hw => ?_, fun hw => absurd hw (by simp [Region.wanted])⟩
    refine opw_yields (w' := w) (.pointer (some ⟨b2, 3, none⟩)) ?_ rfl ?_
    · simp only [execOp, resolve, List.map_toArray, List.map_cons, List.map_nil, Act.eval, s2]; simp [go_sem, -Array.getD_eq_getD_getElem?, s2]
    · simpa [upd] using hI
  case o10 =>
    intro a w L hfr hI hs hd
    obtain ⟨d0, _⟩ := hd
    have s16 : a.tmps.getD 16 undef = .pointer (some ⟨b2, 3, none⟩) := d0 rfl
    refine ⟨fun hw => ?_, fun hw => absurd hw (by simp [Region.wanted])⟩
    have q15 : L 15 = false := hs.not hs.self 15 (by kernel_rfl)
    have q17 : L 17 = false := hs.not q15 17 (by kernel_rfl)
    have hw0 : w = wd := by have h := hI; simpa only [q15, q17, if_true, if_false, Bool.false_eq_true] using h
    refine opw_yields (w' := w) (.slice A2 ln c2) ?_ rfl ?_
    · rw [hw0]; simp only [execOp, resolve, List.map_toArray, List.map_cons, List.map_nil, Act.eval, s16]; simp [go_sem, -Array.getD_eq_getD_getElem?, s16, z3]
    · simpa [upd] using hI
  case o11 =>
    intro a w L hfr hI hs hd
    obtain ⟨d0, _⟩ := hd
    have s17 : a.tmps.getD 17 undef = .slice A2 ln c2 := d0 rfl
    refine ⟨fun hw => ?_, fun hw => absurd hw (by simp [Region.wanted])⟩
    refine opw_yields (w' := w) (.int .i64 ln) ?_ rfl ?_
    · simp only [execOp, resolve, List.map_toArray, List.map_cons, List.map_nil, Act.eval, s17]; simp [go_sem, -Array.getD_eq_getD_getElem?, s17]
    · simpa [upd] using hI
  case o12 =>
    intro a w L hfr hI hs hd
    obtain ⟨d0, _⟩ := hd
    have s18 : a.tmps.getD 18 undef = .int .i64 ln := d0 rfl
    refine ⟨fun hw => ?_, fun hw => absurd hw (by simp [Region.wanted])⟩
    refine opw_yields (w' := w) (.int .i64 m2) ?_ rfl ?_
    · simp only [execOp, resolve, List.map_toArray, List.map_cons, List.map_nil, Act.eval, s18]; simp [go_sem, -Array.getD_eq_getD_getElem?, s18, hm2]
    · simpa [upd] using hI
  case o13 =>
    intro a w L hfr hI hs hd
    obtain ⟨d0, d1, _⟩ := hd
    have s15 : a.tmps.getD 15 undef = .slice A2 ln c2 := d0 rfl
    have s19 : a.tmps.getD 19 undef = .int .i64 m2 := d1 rfl
    refine ⟨fun hw => ?_, fun hw => absurd hw (by simp [Region.wanted])⟩
    refine opw_yields (w' := w) (.slice A2 m2 c2) ?_ rfl ?_
    · simp only [execOp, resolve, List.map_toArray, List.map_cons, List.map_nil, Act.eval, s15, s19]; simp [go_sem, -Array.getD_eq_getD_getElem?, s15, s19, x1, x2, x3]
    · simpa [upd] using hI
  case o14 =>
    intro a w L hfr hI hs hd
    obtain ⟨d0, d1, d2, d3, d4, d5, d6, d7, d8, d9, d10, d11, d12, d13, _⟩ := hd
    have s2 : a.tmps.getD 2 undef = .pointer (some ⟨b2, 0, none⟩) := hfr.at 2 (by kernel_rfl)
    refine ⟨fun hw => ?_, fun hw => absurd hw (by simp [Region.wanted])⟩
    refine opw_yields (w' := w) (.pointer (some ⟨b2, 2, none⟩)) ?_ rfl ?_
    · simp only [execOp, resolve, List.map_toArray, List.map_cons, List.map_nil, Act.eval, s2]; simp [go_sem, -Array.getD_eq_getD_getElem?, s2]
    · simpa [upd] using hI
  case o15 =>
    intro a w L hfr hI hs hd
    obtain ⟨d0, d1, d2, d3, d4, d5, d6, d7, d8, d9, d10, d11, d12, d13, d14, d15, _⟩ := hd
    have s21 : a.tmps.getD 21 undef = .pointer (some ⟨b2, 2, none⟩) := d0 rfl
    have s13 : a.tmps.getD 13 undef = .slice A1 m1 c1 := d1 rfl
    refine ⟨fun hw => ?_, fun hw => absurd hw (by simp [Region.wanted])⟩
    have q15 : L 15 = false := hs.self
    have q17 : L 17 = false := hs.not q15 17 (by kernel_rfl)
    have hw0 : w = wd := by have h := hI; simpa only [q15, q17, if_true, if_false, Bool.false_eq_true] using h
    refine opw_stores (w' := (wd.setCell ⟨b2, 2, none⟩ (.slice A1 m1 c1))) rfl ?_ trivial ?_
    · rw [hw0]; simp only [execOp, resolve, List.map_toArray, List.map_cons, List.map_nil, Act.eval, s21, s13]; simp [go_sem, -Array.getD_eq_getD_getElem?, s21, s13, z2, f2]
    · simp [upd, q15, q17]
  case o16 =>
    intro a w L hfr hI hs hd
    obtain ⟨d0, d1, d2, d3, d4, d5, d6, d7, d8, d9, d10, d11, d12, d13, d14, d15, _⟩ := hd
    have s2 : a.tmps.getD 2 undef = .pointer (some ⟨b2, 0, none⟩) := hfr.at 2 (by kernel_rfl)
    refine ⟨fun hw => ?_, fun hw => absurd hw (by simp [Region.wanted])⟩
    refine opw_yields (w' := w) (.pointer (some ⟨b2, 3, none⟩)) ?_ rfl ?_
    · simp only [execOp, resolve, List.map_toArray, List.map_cons, List.map_nil, Act.eval, s2]; simp [go_sem, -Array.getD_eq_getD_getElem?, s2]
    · simpa [upd] using hI
  case o17 =>
    intro a w L hfr hI hs hd
    obtain ⟨d0, d1, d2, d3, d4, d5, d6, d7, d8, d9, d10, d11, d12, d13, d14, d15, d16, d17, d18, _⟩ := hd
    have s22 : a.tmps.getD 22 undef = .pointer (some ⟨b2, 3, none⟩) := d0 rfl
    have s20 : a.tmps.getD 20 undef = .slice A2 m2 c2 := d1 rfl
    refine ⟨fun hw => ?_, fun hw => absurd hw (by simp [Region.wanted])⟩
    have q17 : L 17 = false := hs.self
    have q15 : L 15 = true := hs.done (by decide) 15 (by kernel_rfl)
    have hw0 : w = (wd.setCell ⟨b2, 2, none⟩ (.slice A1 m1 c1)) := by have h := hI; simpa only [q15, q17, if_true, if_false, Bool.false_eq_true] using h
    refine opw_stores (w' := ((wd.setCell ⟨b2, 2, none⟩ (.slice A1 m1 c1)).setCell ⟨b2, 3, none⟩ (.slice A2 m2 c2))) rfl ?_ trivial ?_
    · rw [hw0]; simp only [execOp, resolve, List.map_toArray, List.map_cons, List.map_nil, Act.eval, s22, s20]; simp [go_sem, -Array.getD_eq_getD_getElem?, s22, s20, z3, f3]
    · simp [upd, q15, q17]
  case hI => simpa using hwd
  case hend =>
    intro vs w' hI hv
    have hw' : w' = ((wd.setCell ⟨b2, 2, none⟩ (.slice A1 m1 c1)).setCell ⟨b2, 3, none⟩ (.slice A2 m2 c2)) := hI
    have HS4 := Lib.hid (show S1At w b2 b4 [.int .i64 kk, .int .i64 nn, .slice A1 m1 c1, .slice A2 m2 c2, .slice A3 N c3] w' from by rw [hw']; exact HS3.out)
    clear hv hI HS3 HS1 z2 f2 z3 f3 hw' hwd
    simp only [putAll, Act.put]
    go_simp
    go_wp2_with fail
    obtain ⟨M, hM⟩ : ∃ M, (if n = 0 then 0 else min N 3) = M := ⟨_, rfl⟩
    have hM3 : M ≤ 3 ∧ M ≤ N ∧ (M = N ∨ M = 3 ∨ n = 0) ∧ (0 < M → 0 < n) := by rw [← hM]; split <;> omega
    obtain ⟨hMa, hMb, hMc, hMd⟩ := hM3
    clear hM
    go_loopg [5, 6] M (fun g y5 y6 wr => ∃ (i : Nat) (X : Option Addr) (cx : Nat) (L : List XE), i + g = M ∧ y6 = .int .i64 i ∧ y5 = .slice X L.length cx ∧ L.length = i ∧ SmAt S0 w b2 b4 [.int .i64 kk, .int .i64 nn, .slice A1 m1 c1, .slice A2 m2 c2, .slice A3 N c3] n L X cx wr)
    case atStart => exact ⟨0, none, 0, [], by omega, rfl, rfl, rfl, ⟨HS4.out, World.ownsRow_nil _ _ _ _, (fun q hq => absurd hq List.not_mem_nil), (fun q hq => absurd hq List.not_mem_nil), HNW.out⟩⟩
    case round =>
      obtain ⟨i, X, cx, L, hig, rfl, rfl, hLi, hat⟩ := hrel
      have HA := Lib.hid hat; have HLI := Lib.hid hLi
      clear hat HS4 hLi
      obtain ⟨x0, x1', x2', x3', x4'⟩ := blk_cells5 HA.out.s1.box
      cases gk with
      | zero => --done
        have hLi := HLI.out
        have hT : (¬ (i : Int) < N) ∨ ((i : Int) < N ∧ ¬ (i : Int) < 3) ∨ ((i : Int) < N ∧ (i : Int) < 3 ∧ ¬ (0 : Int) < n) := by omega
        have HL3 := Lib.hid (show L.length ≤ 3 by omega)
        obtain ⟨nl, hnl⟩ : ∃ l, L.length = l := ⟨_, rfl⟩
        have HNL := Lib.hid hnl
        rw [hnl]
        have f4 := HA.out.s1.box.frozen 4
        have HS5 := Lib.hid (show S1At w b2 b4 [.int .i64 kk, .int .i64 nn, .slice A1 m1 c1, .slice A2 m2 c2, .slice X nl cx] (wr.setCell ⟨b2, 4, none⟩ (.slice X nl cx)) from HA.out.s1.set 4 _)
        have HW5 := Lib.hid (show wr.heap.size ≤ (wr.setCell ⟨b2, 4, none⟩ (.slice X nl cx)).heap.size ∧ ∀ b, b ≠ b2 → (wr.setCell ⟨b2, 4, none⟩ (.slice X nl cx)).heap[b]? = wr.heap[b]? from ⟨by simp [World.setCell], fun b hb => Below.heap_setCell _ ⟨b2, 4, none⟩ _ b hb⟩)
        clear hnl
        rcases hT with t1 | ⟨t1, t2⟩ | ⟨t1, t2, t3⟩
        all_goals
          go_upto_region 8 with fail
          clear x0 x1' x2' x3' x4' f4
          generalize wr.setCell ⟨b2, 4, none⟩ (.slice X nl cx) = W5 at *
          obtain ⟨x0, x1', x2', x3', x4'⟩ := blk_cells5 HS5.out.box
          obtain ⟨r0, r1, r2, r3, r4⟩ := blk_cells5 HS5.out.res
          obtain ⟨f0, f1, f2, f3, f4⟩ := blk_fr HS5.out.res
          have hrs := ((((HS5.out.res.set 0 (.int .i64 kk)).set 1 (.int .i64 nn)).set 2 (.slice A1 m1 c1)).set 3 (.slice A2 m2 c2)).set 4 (.slice X nl cx)
          have HRS := Lib.hid (show Blk (((((W5.setCell ⟨b4, 0, none⟩ (.int .i64 kk)).setCell ⟨b4, 1, none⟩ (.int .i64 nn)).setCell ⟨b4, 2, none⟩ (.slice A1 m1 c1)).setCell ⟨b4, 3, none⟩ (.slice A2 m2 c2)).setCell ⟨b4, 4, none⟩ (.slice X nl cx)) b4 26 [.int .i64 kk, .int .i64 nn, .slice A1 m1 c1, .slice A2 m2 c2, .slice X nl cx] from hrs)
          have hlt : w.heap.size ≤ b4 := by have := HS5.out.lt; omega
          have HBZ := Lib.hid (((((HS5.out.bel.setCell (p := ⟨b4, 0, none⟩) hlt (.int .i64 kk)).setCell (p := ⟨b4, 1, none⟩) hlt (.int .i64 nn)).setCell (p := ⟨b4, 2, none⟩) hlt (.slice A1 m1 c1)).setCell (p := ⟨b4, 3, none⟩) hlt (.slice A2 m2 c2)).setCell (p := ⟨b4, 4, none⟩) hlt (.slice X nl cx))
          have HTZ0 := Lib.hid (HA.out.tree (kk := kk) (nn := nn) (w' := ((((W5.setCell ⟨b4, 0, none⟩ (.int .i64 kk)).setCell ⟨b4, 1, none⟩ (.int .i64 nn)).setCell ⟨b4, 2, none⟩ (.slice A1 m1 c1)).setCell ⟨b4, 3, none⟩ (.slice A2 m2 c2)).setCell ⟨b4, 4, none⟩ (.slice X nl cx)) (HF1.out.below HA.out.s1.bel) (HF2.out.below HA.out.s1.bel) (Nat.le_trans HW5.out.1 (by simp [World.setCell])) (fun b hb h2 h4 => by
            rw [Below.heap_setCell _ ⟨b4, 4, none⟩ _ b h4, Below.heap_setCell _ ⟨b4, 3, none⟩ _ b h4, Below.heap_setCell _ ⟨b4, 2, none⟩ _ b h4, Below.heap_setCell _ ⟨b4, 1, none⟩ _ b h4, Below.heap_setCell _ ⟨b4, 0, none⟩ _ b h4]
            exact HW5.out.2 b h2))
          have HTI := Lib.hid (show tinyX (n + 1) (.mk kk nn (.slice A1 m1 c1) ms1 (.slice A2 m2 c2) ns1 (.slice X L.length cx) L) ∧ szX (n + 1) (.mk kk nn (.slice A1 m1 c1) ms1 (.slice A2 m2 c2) ns1 (.slice X L.length cx) L) from
            ⟨⟨HTN.out.1, HTN.out.2, HL3.out, fun q hq => (HA.out.tiny q hq).1⟩, ⟨HSZ.out.1, HSZ.out.2.1, HSZ.out.2.2, fun q hq => (HA.out.tiny q hq).2⟩⟩)
          rw [HNL.out] at HTZ0 HTI
          clear hrs hlt HS5 HA HW5
          go_wp2_with fail
          obtain ⟨q0, q1, q2, q3, q4⟩ := blk_cells5 HRS.out
          generalize ((((W5.setCell ⟨b4, 0, none⟩ (.int .i64 kk)).setCell ⟨b4, 1, none⟩ (.int .i64 nn)).setCell ⟨b4, 2, none⟩ (.slice A1 m1 c1)).setCell ⟨b4, 3, none⟩ (.slice A2 m2 c2)).setCell ⟨b4, 4, none⟩ (.slice X nl cx) = WZ at *
          refine bodyPost_ret (v := .agg #[.int .i64 kk, .int .i64 nn, .slice A1 m1 c1, .slice A2 m2 c2, .slice X nl cx]) (by simp [results, Tryz.results4, go_sem, q0, q1, q2, q3, q4]) rfl ⟨_, rfl, HTZ0.out, HTI.out.1, HTI.out.2, HBZ.out⟩
      | succ g => --done
        have hlt : i < N := by omega
        have t1 : (i : Int) < N := by omega
        have t2 : (i : Int) < 3 := by omega
        obtain ⟨m, hmn⟩ : ∃ m, m + 1 = n := ⟨n - 1, by omega⟩
        have t3 : (0 : Int) < n := by omega
        have t4 : (n : Int) - 1 = m := by omega
        have t5 : IntKind.i64.wrap ((n : Int) - 1) = m := by rw [IntKind.wrap_i64]; omega
        have t6 : IntKind.i64.wrap (m : Int) = m := by rw [IntKind.wrap_i64]; omega
        obtain ⟨ad, hkl, hAd, e0, e1, e2, e3, e4⟩ := (Slc.slice (HFK.out.below HA.out.s1.bel).now).1.kid hlt
        subst hAd
        have hki := (HFO.out ks[i] (List.getElem_mem hkl)).below HA.out.s1.bel
        have hzi := HZK.out ks[i] (List.getElem_mem hkl)
        generalize ks[i] = q at *
        obtain ⟨B1, b1, B2, bb2, B3, b3, v1, v2, v3⟩ := okX_forms hki.now
        rw [v1] at e2; rw [v2] at e3; rw [v3] at e4
        have hva : q.val = .agg #[.int .i64 q.kd, .int .i64 q.n, .slice B1 q.ms.length b1, .slice B2 q.ns.length bb2, .slice B3 q.kids.length b3] := by unfold XE.val; rw [v1, v2, v3]
        have HC0 := HIH.out m hmn d q wr hki hzi (fun b hb => HNW.out b (Nat.le_trans HA.out.s1.bel.size hb))
        rw [hva] at HC0
        have HCC := Lib.hid HC0
        have HMN := Lib.hid hmn
        clear hki hzi v1 v2 v3 hva HC0 hmn
        generalize q.ms.length = l1 at *
        generalize q.ns.length = l2 at *
        generalize q.kids.length = l3 at *
        generalize q.kd = qk at *
        generalize q.n = qn at *
        obtain ⟨i0, hi, hz0, hz1, hz2⟩ := info_parts Tryz.infoExprC
        have HI := Lib.hid hi; have HZ0 := Lib.hid hz0; have HZ1 := Lib.hid hz1; have HZ2 := Lib.hid hz2
        clear hi hz0 hz1 hz2
        go_wp2_with fail
        (with_reducible refine HCC.out.mono ?_); rintro e w3 ⟨y, rfl, hfy, hty, hsy, hb⟩
        have hfy2 : FarS (fun b => S0 b ∧ b < wr.heap.size) (okX n y) w3 := by rw [← HMN.out]; exact hfy
        obtain ⟨C1, d1, C2, d2, C3, d3, u1, u2, u3⟩ := okX_forms hfy.now
        have hvy : y.val = .agg #[.int .i64 y.kd, .int .i64 y.n, .slice C1 y.ms.length d1, .slice C2 y.ns.length d2, .slice C3 y.kids.length d3] := by unfold XE.val; rw [u1, u2, u3]
        have hcy : kcells [y] = [.int .i64 y.kd, .int .i64 y.n, .slice C1 y.ms.length d1, .slice C2 y.ns.length d2, .slice C3 y.kids.length d3] := by show [.int .i64 y.kd, .int .i64 y.n, y.mv, y.nv, y.kv] = _; rw [u1, u2, u3]
        rw [hvy]
        have hb2 := (Below.refl w3.heap.size w3).alloc (Nat.le_refl _) (.cells #[.int .i64 y.kd, .int .i64 y.n, .slice C1 y.ms.length d1, .slice C2 y.ns.length d2, .slice C3 y.kids.length d3] 26)
        have HA3 := Lib.hid ((HA.out.below hb).below hb2)
        have HFY := Lib.hid (show FarS (fun b => S0 b ∧ b ≤ b4 ∨ (Value.slice X L.length cx).ownBlock = some b) (okX n y) _ from (hfy2.below hb2).mono (fun b _ hS => by
          rcases hS with hS | hS
          · exact ⟨hS.1, by have := HA.out.s1.res.lt; omega⟩
          · have h1 := HA.out.row.lt b hS
            exact ⟨HA.out.new b (by have := HA.out.s1.lt; omega), h1.2⟩))
        have HTY := Lib.hid (show tinyX n y ∧ szX n y by rw [← HMN.out]; exact ⟨hty, hsy⟩)
        have HSN := Lib.hid ((Blk.mk (heap_alloc_new w3 _) : Blk (w3.alloc (.cells #[.int .i64 y.kd, .int .i64 y.n, .slice C1 y.ms.length d1, .slice C2 y.ns.length d2, .slice C3 y.kids.length d3] 26)) w3.heap.size 26 [.int .i64 y.kd, .int .i64 y.n, .slice C1 y.ms.length d1, .slice C2 y.ns.length d2, .slice C3 y.kids.length d3]).sees (size := 5) (n := 1) rfl (List.prefix_refl _))
        have HCY := Lib.hid hcy
        have hLl : L.length ≤ 3 := by have := HLI.out; omega
        clear hb hb2 hfy hfy2 hty hsy u1 u2 u3 hvy hcy HCC HA x0 x1' x2' x3' x4'
        generalize y.ms.length = n1 at *
        generalize y.ns.length = n2 at *
        generalize y.kids.length = n3 at *
        obtain ⟨yk, hyk⟩ : ∃ z, y.kd = z := ⟨_, rfl⟩
        obtain ⟨yn, hyn⟩ : ∃ z, y.n = z := ⟨_, rfl⟩
        rw [hyk, hyn] at HCY HSN HA3 HFY ⊢
        clear hyk hyn
        go_wp2_with (at_builtin; refine wpList_append_at rfl (.tmp 38) (.tmp 47) 24 rfl (b4 + 1) 26 i0 (.agg #[.int .i64 0, .int .i64 0, .slice none 0 0, .slice none 0 0, .slice none 0 0]) 5 88 Tryz.underlying24 HI.out HZ0.out HZ1.out HZ2.out rfl (by decide) _ L.length (kcells L) rfl HA3.out.row _ (some ⟨w3.heap.size, 0, none⟩) 1 _ [.int .i64 yk, .int .i64 yn, .slice C1 n1 d1, .slice C2 n2 d2, .slice C3 n3 d3] rfl HSN.out (by intro u hu; simp only [List.mem_cons, List.not_mem_nil, or_false] at hu; rcases hu with rfl | rfl | rfl | rfl | rfl <;> rfl) (by unfold maxLen; omega) (by omega) (by have := HA3.out.s1.res.lt; omega) ?_)
        intro v' w4 hown hgr hwh
        obtain ⟨A5, c5, rfl, _, _⟩ := own_slice hown
        have HA5 := Lib.hid (HA3.out.more HFY.out HTY.out (by rw [HCY.out]; exact hown) hgr hwh)
        have HL5 := Lib.hid (show (L ++ [y]).length = L.length + 1 by simp)
        clear hown hgr hwh HA3 HFY HSN HCY HTY
        go_wp2_with fail
        go_roundg g
        case measure => omega
        case rel => exact ⟨i + 1, A5, c5, L ++ [y], by omega, by first | rfl | go_num, by rw [HL5.out], by rw [HL5.out, HLI.out], HA5.out⟩
theorem small_cut (S0 : Nat → Prop) : ∀ n, n ≤ 4 → SmallSaid S0 n
  | 0, h => small_step S0 0 h (fun m hm => by omega)
  | n + 1, h => small_step S0 (n + 1) h (fun m hm => by obtain rfl : m = n := (by omega); exact small_cut S0 m (by omega))
end Go.Proofs.YtcaapbbbekggiaaGreatDoor
