/- klaxonlaw19.MailPlays. -/
import Derived.Test.YtepgllmenljkcaaMailOrder
import Derived.Test.YtepgllmenljkcaaFacts2
import Derived.Test.YtepgllmenljkcaaFresh
import Derived.Test.YtepgllmenljkcaaSample
namespace Go.Proofs.Ytepgllmenljkcaa
open Go.ChangeShapes Go.WideShapes Go.ChangeAt Go.RowKit
set_option linter.unusedVariables false
set_option linter.unusedSimpArgs false
set_option maxRecDepth 100000
/-- The law's own list: it is read alone. -/
structure PlAt (w0 : World) (v : Value) (os : List NV) (w : World) : Prop where
  slc : ∃ A c, v = .slice A os.length c ∧ Sees w w.heap.size 3 A os.length (ncells os) ∧ Typed w 27 A os.length ∧ os.length ≤ c ∧ c ≤ 9223372036854775807
  ok : ∀ x ∈ os, NOk w x
  bel : Below w0.heap.size w0 w
section
variable {w0 w w' : World} {b c : Nat} {v : Value} {os : List NV}
theorem PlAt.below (h : PlAt w0 v os w) (hb : Below w.heap.size w w') : PlAt w0 v os w' := by
  obtain ⟨A, c, h1, h2, h3, h4⟩ := h.slc
  exact ⟨⟨A, c, h1, (h2.below hb).more hb.size, h3.below hb (sees_lt h2), h4⟩, fun x hx => (h.ok x hx).below hb, h.bel.trans (hb.mono h.bel.size)⟩
theorem PlAt.alloc (h : PlAt w0 v os w) (o : Obj) : PlAt w0 v os (w.alloc o) := h.below ((Below.refl _ _).alloc (Nat.le_refl _) o)
theorem PlAt.mwr (h : PlAt w0 v os w) (hn : NotBC w b c) (hm : MWr b c w w') (hb : w0.heap.size ≤ b) (hc : w0.heap.size ≤ c) : PlAt w0 v os w' := by
  obtain ⟨A, c2, h1, h2, h3, h4⟩ := h.slc
  exact ⟨⟨A, c2, h1, h2.mwr (h3.bc hn box_ne_note) hm, h3.mwr (sees_lt h2) (h3.bc hn box_ne_note) hm, h4⟩, fun x hx => (h.ok x hx).mwr hn hm, hm.bel h.bel hb hc⟩
theorem PlAt.nil (w : World) : PlAt w (.slice none 0 0) [] w := ⟨⟨none, 0, rfl, Sees.nil, (fun _ h => by cases h), Nat.le_refl _, by omega⟩, (fun x hx => by cases hx), Below.refl _ _⟩
end
/-- The number nearest to n. -/
def nNear (n lo hi : Int) : Int := if n < lo then lo else if hi < n then hi else n
theorem clamp_any (n lo hi : Int) (w : World) (hlh : lo ≤ hi) :
    Calls Try.prog 12 #[.int .i64 n, .int .i64 lo, .int .i64 hi] w fun e w' => e = .returned (.int .i64 (nNear n lo hi)) ∧ w = w' := by
  by_cases h1 : n < lo
  · have HE := Lib.hid (show nNear n lo hi = lo by unfold nNear; rw [if_pos h1])
    go_enter Try.func12, Try.ntmps12
    go_wp2_with fail
    go_ret
    exact ⟨by rw [HE.out]; rfl, rfl⟩
  · by_cases h2 : hi < n
    · have HE := Lib.hid (show nNear n lo hi = hi by unfold nNear; rw [if_neg h1, if_pos h2])
      go_enter Try.func12, Try.ntmps12
      go_wp2_with fail
      go_ret
      exact ⟨by rw [HE.out]; rfl, rfl⟩
    · have HE := Lib.hid (show nNear n lo hi = n by unfold nNear; rw [if_neg h1, if_neg h2])
      go_enter Try.func12, Try.ntmps12
      go_wp2_with fail
      go_ret
      exact ⟨by rw [HE.out]; rfl, rfl⟩
/-- The list that is read does not lie in the row. -/
def Apart (v u : Value) : Prop := ∀ A n c, v = .slice (some A) n c → 0 < n → u.ownBlock ≠ some A.block
theorem lastN_more {α : Type} {r : Nat} (K : List α) (x : α) (hr : 1 ≤ r) : lastN r (K ++ [x]) = (lastN r K ++ [x]).drop ((lastN r K).length + 1 - r) := by
  rw [← lastN_snoc K x hr, List.drop_append_of_le_length (by rw [lastN_length]; omega)]
theorem step_append_w {P : Program} {w : World} {ops : Array Oper} {o : Oper} {a : Act} {K : Act → World → Prop} {Q : Exit → Act → World → Prop} {E : Prop} (hgd : o.guard = none) (s x : Operand) (t : TypeId)
    (ho : o.op = .call { callee := .builtin .append, args := #[s, x], argTypes := #[t, t] })
    (base : Nat) (e : TypeId) (i : TypeInfo) (z : Value) (size bytes : Nat) (ht : P.underlying t = some (.slice e)) (hi : P.info? e = some i) (hz : i.zero = some z)
    (hsize : i.size = size) (hby : i.bytes = bytes) (hzs : z.cells.size = size) (hsz : 0 < size)
    (v : Value) (n : Nat) (xs : List Value) (hv : a.eval s = v) (hown : w.ownsRow base e size v n xs)
    (B : Nat) (A : Option Addr) (m c : Nat) (news : List Value) (hx : a.eval x = .slice A m c) (hs : Sees w B size A m news) (h1 : ∀ u ∈ news, u.oneCell' = true)
    (h63 : n + m ≤ maxLen) (hbytes : (n + m) * bytes ≤ 140737488355328) (hbase : base ≤ w.heap.size)
    (h : ∀ A' c' w', w'.ownsRow base e size (.slice A' (n + m) c') (n + m) (xs ++ news) → w.grownBy w' v.ownBlock → Where w v (.slice A' (n + m) c') → K (a.put o.dst (.slice A' (n + m) c')) w') :
    if Region.wanted o (yielded ops a.tmps) = true then Oper.wp P o a w K Q else E := by
  have hw : Region.wanted o (yielded ops a.tmps) = true := by simp [Region.wanted, hgd]
  rw [if_pos hw]
  obtain ⟨v', w', hr, h2, h3⟩ := append_run (P := P) w base t o.type e i z size bytes ht hi hz hsize hby hzs hsz v n xs hown B A m c news hs h1 h63 hbytes hbase
  have h4 := append_where (P := P) w base t o.type e i z size bytes ht hi hz hsize hby hzs hsz v n xs hown B A m c news hs h1 h63 hbytes v' w' hr
  obtain ⟨A', c', rfl, _, _⟩ := own_slice h2
  unfold Oper.wp execOp
  simp only [ho, resolve, invoke, builtin, Sem.run_bind, Sem.run_pure, Result.andThen_ok, List.map_toArray, List.map_cons, List.map_nil, hv, hx, hr]
  exact h A' c' w' h2 h3 h4
theorem own_al {w : World} {base : Nat} {e : TypeId} {size n : Nat} {v : Value} {xs : List Value} (o : Obj) (h : w.ownsRow base e size v n xs) : (w.alloc o).ownsRow base e size v n xs := own_below h ((Below.refl _ _).alloc (Nat.le_refl _) o) (Nat.le_refl _)
theorem own_dr {w : World} {base : Nat} {e : TypeId} {size n : Nat} {v : Value} {xs : List Value} (h : w.ownsRow base e size v n xs) : w.drew.ownsRow base e size v n xs := own_below h (Below.refl _ _).drew (Nat.le_refl _)
/-- Ahead of the append onto the call's notes. -/
structure Q0 (w0 : World) (B b c r : Nat) (d : Int) (l L xs : List NV) (v u : Value) (x : NV) (W : World) : Prop where
  pl : PlAt w0 v L W
  bx : BAt b c r d l W
  ok : ∀ z ∈ xs, NOk W z
  okx : NOk W x
  ns : W.ownsRow B 27 3 u xs.length (ncells xs)
  ap : Apart v u
/-- Behind it. -/
structure Q1 (w0 : World) (B b c r : Nat) (d : Int) (l L xs : List NV) (v u : Value) (x : NV) (W : World) : Prop where
  pl : PlAt w0 v L W
  bx : BAt b c r d l W
  ok : ∀ z ∈ xs, NOk W z
  okx : NOk W x
  ns : W.ownsRow B 27 3 u (xs.length + 1) (ncells (xs ++ [x]))
/-- Behind the copy of the list. -/
structure Q3 (w0 : World) (B b c r : Nat) (d : Int) (l L xs : List NV) (u v9 : Value) (x : NV) (W : World) : Prop where
  okl : ∀ z ∈ L, NOk W z
  bx : BAt b c r d l W
  ok : ∀ z ∈ xs, NOk W z
  okx : NOk W x
  ns : W.ownsRow B 27 3 u (xs.length + 1) (ncells (xs ++ [x]))
  cp : W.ownsRow w0.heap.size 27 3 v9 L.length (ncells L)
  ne : ∀ k, v9.ownBlock = some k → u.ownBlock ≠ some k
  bel : Below w0.heap.size w0 W
section
variable {w0 W W' : World} {B b c r g : Nat} {d : Int} {l L xs : List NV} {v u u' : Value} {x : NV}
theorem Q0.below (h : Q0 w0 B b c r d l L xs v u x W) (hb : Below W.heap.size W W') : Q0 w0 B b c r d l L xs v u x W' := ⟨h.pl.below hb, h.bx.below hb, fun z hz => (h.ok z hz).below hb, h.okx.below hb, own_below h.ns hb (Nat.le_refl _), h.ap⟩
theorem Q0.alloc (o : Obj) (h : Q0 w0 B b c r d l L xs v u x W) : Q0 w0 B b c r d l L xs v u x (W.alloc o) := h.below ((Below.refl _ _).alloc (Nat.le_refl _) o)
theorem Q0.drew (h : Q0 w0 B b c r d l L xs v u x W) : Q0 w0 B b c r d l L xs v u x W.drew := h.below (Below.refl _ _).drew
theorem Q1.below (h : Q1 w0 B b c r d l L xs v u x W) (hb : Below W.heap.size W W') : Q1 w0 B b c r d l L xs v u x W' := ⟨h.pl.below hb, h.bx.below hb, fun z hz => (h.ok z hz).below hb, h.okx.below hb, own_below h.ns hb (Nat.le_refl _)⟩
theorem Q1.alloc (o : Obj) (h : Q1 w0 B b c r d l L xs v u x W) : Q1 w0 B b c r d l L xs v u x (W.alloc o) := h.below ((Below.refl _ _).alloc (Nat.le_refl _) o)
theorem Q0.app (h : Q0 w0 B b c r d l L xs v u x W) (hg : W.grownBy W' u.ownBlock) (hown : W'.ownsRow B 27 3 u' (xs.length + 1) (ncells xs ++ ncells [x])) (hB : w0.heap.size ≤ B) : Q1 w0 B b c r d l L xs v u' x W' := by
  rw [← ncells_append] at hown
  refine ⟨⟨?_, fun z hz => (h.pl.ok z hz).row h.ns hg note_ne_string, h.pl.bel.grown hg h.pl.bel.size (fun k hk => Nat.le_trans hB (h.ns.lt k hk).1)⟩, h.bx.row h.ns hg note_ne_string note_ne_box, fun z hz => (h.ok z hz).row h.ns hg note_ne_string, h.okx.row h.ns hg note_ne_string, hown⟩
  obtain ⟨A, c2, rfl, hs, ht, hc⟩ := h.pl.slc
  have hz := hg.size
  have key : ∀ ad, A = some ad → 0 < L.length → W'.heap[ad.block]? = W.heap[ad.block]? := fun ad he hn => hg.block ad.block (sees_lt hs ad he hn) (fun e => h.ap ad L.length c2 (by rw [he]) hn e.symm)
  refine ⟨A, c2, rfl, ⟨hs.len, fun hn => ?_⟩, fun ad he hn => by rw [key ad he hn]; exact ht ad he hn, hc⟩
  obtain ⟨ad, e, hb, hcell⟩ := hs.at_ hn
  refine ⟨ad, e, by omega, fun j q hq => (World.cell?_of_block (w := W) (a := ad.add j) ?_).trans (hcell j q hq)⟩
  rw [add_block]
  exact key ad e (by omega)
theorem Q1.drew (h : Q1 w0 B b c r d l L xs v u x W) : Q1 w0 B b c r d l L xs v u x W.drew := h.below (Below.refl _ _).drew
theorem own_ne {w w' : World} {base size n g : Nat} {t : TypeId} {v : Value} {xs : List Value} (h : w.ownsRow base t size v n xs) (ho : w.grownBy w' (some g)) (hne : v.ownBlock ≠ some g) : w'.ownsRow base t size v n xs := by
  rcases h with ⟨h1, ⟨h2, h3⟩ | ⟨q, cap, cur, rfl, hb, hh, hr⟩⟩
  · exact ⟨h1, .inl ⟨h2, h3⟩⟩
  · exact ⟨h1, .inr ⟨q, cap, cur, rfl, hb, (ho.block q (Array.getElem?_eq_some_iff.1 hh).1 (fun e => hne (by simp only [Value.ownBlock]; exact e))).trans hh, hr⟩⟩
theorem q1_sees {A : Option Addr} {c7 : Nat} (h : Q1 w0 B b c r d l L xs (.slice A L.length c7) u x W) : Sees W W.heap.size 3 A L.length (ncells L) := by
  obtain ⟨A', c', hv, hs, _⟩ := h.pl.slc
  injection hv with hv1 _ _
  subst hv1
  exact hs
theorem own_empty {w : World} {g size : Nat} {t : TypeId} (h : Blk w g t []) : w.ownsRow g t size (.slice (some ⟨g, 0, none⟩) 0 0) 0 [] := ⟨by simp, .inr ⟨g, 0, #[], rfl, Nat.le_refl _, h, Nat.le_refl _, by simp, by simp, by simp⟩⟩
theorem own_not_empty {w : World} {base n g : Nat} {v : Value} {xs : List Value} (h : w.ownsRow base 27 3 v (n + 1) xs) (hk : Blk w g 27 []) : v.ownBlock ≠ some g := fun e => by
  rcases h with ⟨h1, ⟨h2, h3⟩ | ⟨q, cap, cur, rfl, hb, hh, hc, _, hs, _⟩⟩
  · omega
  · simp only [Value.ownBlock, Option.some.injEq] at e
    subst e
    have := hk.eq.symm.trans hh
    injection this with this; injection this with h4 _ _
    rw [← h4] at hs
    simp at hs
    omega
end
theorem ne_own0 {u : Value} {K s : Nat} (h : ∀ y, u.ownBlock = some y → y < K) (hw : K < s) : some s ≠ u.ownBlock := fun e => by have := h _ e.symm; omega
theorem ne_own1 {u : Value} {K s : Nat} (h : ∀ y, u.ownBlock = some y → y < K) (hw : K < s) : some (s + 1) ≠ u.ownBlock := fun e => by have := h _ e.symm; omega
theorem ne_own2 {u : Value} {K s : Nat} (h : ∀ y, u.ownBlock = some y → y < K) (hw : K < s) : some (s + 1 + 1) ≠ u.ownBlock := fun e => by have := h _ e.symm; omega
theorem lt_al1 (w : World) (o : Obj) : w.heap.size < (w.alloc o).heap.size := by simp
theorem lt_al2 (w : World) (o o2 : Obj) : w.heap.size + 1 < ((w.alloc o).alloc o2).heap.size := by simp
theorem lt_al12 (w : World) (o o2 : Obj) : w.heap.size < ((w.alloc o).alloc o2).heap.size := by simp; omega
theorem lt_gr0 {w w' : World} {r : Option Nat} {o : Obj} (h : (w.alloc o).grownBy w' r) : w.heap.size < w'.heap.size := by have := h.size; simp at this; omega
theorem lt_gr1 {w w' : World} {r : Option Nat} {o o2 : Obj} (h : ((w.alloc o).alloc o2).grownBy w' r) : w.heap.size + 1 < w'.heap.size := by have := h.size; simp at this; omega
theorem lt_gr2 {w w' : World} {r : Option Nat} {o o2 : Obj} (h : ((w.alloc o).alloc o2).grownBy w' r) : w.heap.size < w'.heap.size := by have := h.size; simp at this; omega
theorem le_al (a b c : Nat) (h : a ≤ b) : a ≤ b + c := by omega
theorem blk_t1 (w : World) (cs : List Value) (t : TypeId) : Blk (w.alloc (.cells cs.toArray t)) w.heap.size t cs := Blk.mk (heap_alloc_new w _)
theorem blk_t2 (w : World) (o : Obj) (cs : List Value) (t : TypeId) : Blk ((w.alloc o).alloc (.cells cs.toArray t)) (w.heap.size + 1) t cs := by have h := blk_t1 (w.alloc o) cs t; simpa using h
theorem blk_t3 (w : World) (o o2 : Obj) (cs : List Value) (t : TypeId) : Blk (((w.alloc o).alloc o2).alloc (.cells cs.toArray t)) (w.heap.size + 1 + 1) t cs := by have h := blk_t1 ((w.alloc o).alloc o2) cs t; simpa using h
theorem blk_sees1 {w : World} {g : Nat} {x : NV} (h : Blk w g 27 [.string x.dst, .string x.group, .slice x.A x.al.length x.c]) : Sees w w.heap.size 3 (some ⟨g, 0, none⟩) 1 (ncells [x]) := h.sees rfl (List.prefix_refl _)
theorem box3 {V : World} {b : Nat} {t : TypeId} {x y z : Value} (h : Blk V b t [x, y, z]) : V.cell? ⟨b, 0, none⟩ = some x ∧ V.cell? ⟨b, 1, none⟩ = some y ∧ V.cell? ⟨b, 2, none⟩ = some z := ⟨h.cell 0, h.cell 1, h.cell 2⟩
theorem Blk.drew1 {w : World} {g : Nat} {t : TypeId} {cs : List Value} (h : Blk w g t cs) : Blk w.drew g t cs := h
theorem Q3.below {w0 W W' : World} {B b c r : Nat} {d : Int} {l L xs : List NV} {u v9 : Value} {x : NV} (h : Q3 w0 B b c r d l L xs u v9 x W) (hb : Below W.heap.size W W') : Q3 w0 B b c r d l L xs u v9 x W' := ⟨fun z hz => (h.okl z hz).below hb, h.bx.below hb, fun z hz => (h.ok z hz).below hb, h.okx.below hb, own_below h.ns hb (Nat.le_refl _), own_below h.cp hb (Nat.le_refl _), h.ne, h.bel.trans (hb.mono h.bel.size)⟩
theorem Q3.alloc {w0 W : World} {B b c r : Nat} {d : Int} {l L xs : List NV} {u v9 : Value} {x : NV} (o : Obj) (h : Q3 w0 B b c r d l L xs u v9 x W) : Q3 w0 B b c r d l L xs u v9 x (W.alloc o) := h.below ((Below.refl _ _).alloc (Nat.le_refl _) o)
theorem Q3.drew {w0 W : World} {B b c r : Nat} {d : Int} {l L xs : List NV} {u v9 : Value} {x : NV} (h : Q3 w0 B b c r d l L xs u v9 x W) : Q3 w0 B b c r d l L xs u v9 x W.drew := h.below (Below.refl _ _).drew
/-- What holds behind the statement. -/
structure Fin (w0 : World) (B b c r : Nat) (d : Int) (l L xs : List NV) (u v : Value) (x : NV) (W : World) : Prop where
  ns : W.ownsRow B 27 3 u (xs ++ [x]).length (ncells (xs ++ [x]))
  pl : PlAt w0 v (L ++ [x]) W
  bx : BAt b c r d l W
  ok : ∀ z ∈ xs ++ [x], NOk W z
  ap : Apart v u
theorem fin_out {w0 W : World} {B b c r : Nat} {d : Int} {l L xs : List NV} {u v : Value} {x : NV} (HF : Fin w0 B b c r d l L xs u v x W) (hxp : ∀ z ∈ xs ++ [x], z.al.length ≤ 1) :
    W.ownsRow B 27 3 u (xs ++ [x]).length (ncells (xs ++ [x])) ∧ PlAt w0 v (L ++ [x]) W ∧ BAt b c r d l W ∧ (∀ z ∈ xs ++ [x], NOk W z ∧ z.al.length ≤ 1) ∧ B ≤ W.heap.size ∧ Apart v u :=
  ⟨HF.ns, HF.pl, HF.bx, fun z hz => ⟨HF.ok z hz, hxp z hz⟩, by
    obtain ⟨g', _, _, h1, h2⟩ := HF.ns.form (by rw [List.length_append]; simp)
    omega, HF.ap⟩
theorem step_q3 {w0 W : World} {B b c r g : Nat} {d : Int} {l L xs : List NV} {u : Value} {x : NV} {A : Option Addr} {c7 : Nat}
    {ops : Array Oper} {o : Oper} {a : Act} {K : Act → World → Prop} {Q : Exit → Act → World → Prop} {E : Prop} (hgd : o.guard = none) (s y : Operand)
    (ho : o.op = .call { callee := .builtin .append, args := #[s, y], argTypes := #[34, 34] })
    (i : TypeInfo) (hi : Try.prog.info? 27 = some i) (hz : i.zero = some (.agg #[.string ⟨#[]⟩, .string ⟨#[]⟩, .slice none 0 0])) (hsize : i.size = 3) (hby : i.bytes = 56)
    (hL : L.length ≤ 8) (hv : a.eval s = .slice (some ⟨g, 0, none⟩) 0 0) (hx : a.eval y = .slice A L.length c7)
    (hk : Blk W g 27 []) (hg : w0.heap.size ≤ g) (hq : Q1 w0 B b c r d l L xs (.slice A L.length c7) u x W)
    (h : ∀ A' c' w', Q3 w0 B b c r d l L xs u (.slice A' L.length c') x w' → Below W.heap.size W w' → K (a.put o.dst (.slice A' L.length c')) w') :
    if Region.wanted o (yielded ops a.tmps) = true then Oper.wp Try.prog o a W K Q else E := by
  have hw : Region.wanted o (yielded ops a.tmps) = true := by simp [Region.wanted, hgd]
  rw [if_pos hw]
  obtain ⟨A', c', w', hr, h2, h3⟩ := append_fresh (P := Try.prog) W g 34 o.type 27 i _ 3 56 Try.underlying34 hi hz hsize hby rfl (by decide) hk W.heap.size A L.length c7 (ncells L) (q1_sees hq) (ncells_one _) (by unfold maxLen; omega) (by omega)
  have h4 := append_where (P := Try.prog) W g 34 o.type 27 i _ 3 56 Try.underlying34 hi hz hsize hby rfl (by decide) _ 0 [] (own_empty hk) W.heap.size A L.length c7 (ncells L) (q1_sees hq) (ncells_one _) (by unfold maxLen; omega) (by omega) _ w' hr
  unfold Oper.wp execOp
  simp only [ho, resolve, invoke, builtin, Sem.run_bind, Sem.run_pure, Result.andThen_ok, List.map_toArray, List.map_cons, List.map_nil, hv, hx, hr]
  refine h A' c' w' ⟨fun z hz => (hq.pl.ok z hz).below h3, hq.bx.below h3, fun z hz => (hq.ok z hz).below h3, hq.okx.below h3, own_below hq.ns h3 (Nat.le_refl _), own_mono h2 hg, ?_, hq.pl.bel.trans (h3.mono hq.pl.bel.size)⟩ h3
  intro k hk2 hu
  rcases h4 with h4 | h4
  · rw [h4] at hk2
    simp only [Value.ownBlock, Option.some.injEq] at hk2
    subst hk2
    exact own_not_empty hq.ns hk hu
  · have h5 := h4 k hk2
    have h6 := (hq.ns.lt k hu).2
    omega
theorem step_fin {w0 W : World} {B b c r g : Nat} {d : Int} {l L xs : List NV} {u : Value} {x : NV} {A : Option Addr} {c9 : Nat}
    {ops : Array Oper} {o : Oper} {a : Act} {K : Act → World → Prop} {Q : Exit → Act → World → Prop} {E : Prop} (hgd : o.guard = none) (s y : Operand)
    (ho : o.op = .call { callee := .builtin .append, args := #[s, y], argTypes := #[34, 34] })
    (i : TypeInfo) (hi : Try.prog.info? 27 = some i) (hz : i.zero = some (.agg #[.string ⟨#[]⟩, .string ⟨#[]⟩, .slice none 0 0])) (hsize : i.size = 3) (hby : i.bytes = 56)
    (hL : L.length ≤ 8) (hv : a.eval s = .slice A L.length c9) (hx : a.eval y = .slice (some ⟨g, 0, none⟩) 1 1)
    (hk : Blk W g 27 [.string x.dst, .string x.group, .slice x.A x.al.length x.c]) (hq : Q3 w0 B b c r d l L xs u (.slice A L.length c9) x W)
    (h : ∀ A' c' w', Fin w0 B b c r d l L xs u (.slice A' (L.length + 1) c') x w' → K (a.put o.dst (.slice A' (L.length + 1) c')) w') :
    if Region.wanted o (yielded ops a.tmps) = true then Oper.wp Try.prog o a W K Q else E := by
  refine step_append_w hgd s y 34 ho w0.heap.size 27 i _ 3 56 Try.underlying34 hi hz hsize hby rfl (by decide) (.slice A L.length c9) L.length (ncells L) hv hq.cp W.heap.size _ 1 1 (ncells [x]) hx (blk_sees1 hk) (ncells_one _) (by unfold maxLen; omega) (by omega) hq.bel.size ?_
  intro A' c' w' hown hgr hwh
  rw [← ncells_append] at hown
  have hl : L.length + 1 = (L ++ [x]).length := by simp
  have hcp := hq.cp
  have hn : ∀ z, NOk W z → NOk w' z := fun z h => h.row hcp hgr note_ne_string
  have hun : u.ownBlock = none ∨ u.ownBlock ≠ (Value.slice A L.length c9).ownBlock := by
    rcases hh : (Value.slice A L.length c9).ownBlock with _ | k
    · exact (Option.eq_none_or_eq_some u.ownBlock).imp id (fun ⟨k, hk⟩ => by rw [hk]; exact fun e => by cases e)
    · exact .inr (hq.ne k hh)
  obtain ⟨_, _, hvv, hc1, hc2⟩ := own_slice hown
  injection hvv with _ _ hvc
  subst hvc
  refine h A' c' w' ⟨?_, ⟨⟨A', c', by rw [hl], by rw [← hl]; exact Sees.of_own hown, by rw [← hl]; exact note_typed hown, by rw [← hl]; exact hc1, hc2⟩, ?_, ?_⟩, hq.bx.row hcp hgr note_ne_string note_ne_box, ?_, ?_⟩
  · rw [List.length_append, List.length_singleton]
    exact hq.ns.kept hgr hun
  · intro z hz
    rcases List.mem_append.1 hz with hz | hz
    · exact hn z (hq.okl z hz)
    · rw [List.mem_singleton.1 hz]; exact hn x hq.okx
  · exact hq.bel.grown hgr hq.bel.size (fun k hk => (hcp.lt k hk).1)
  · intro z hz
    rcases List.mem_append.1 hz with hz | hz
    · exact hn z (hq.ok z hz)
    · rw [List.mem_singleton.1 hz]; exact hn x hq.okx
  · intro A2 n2 c2 he hp hu
    rcases hwh with hw | hw
    · rw [he] at hw
      exact hq.ne _ hw.symm hu
    · have h5 := hw A2.block (by rw [he]; rfl)
      have h6 := (hq.ns.lt _ hu).2
      omega
theorem near_cap (n : Int) : nNear n 1 8 = (capN n : Nat) := by
  unfold nNear capN
  by_cases h1 : n < 1
  · rw [if_pos h1, if_pos h1]; rfl
  · rw [if_neg h1, if_neg h1]
    by_cases h2 : 8 < n
    · rw [if_pos h2, if_pos h2]; rfl
    · rw [if_neg h2, if_neg h2]; omega
set_option maxHeartbeats 32000000 in
theorem mail_plays (room : Int) (A : Option Addr) (n cA : Nat) (zs : List (Int × Int)) (w : World) (hr : I64 room) (hs : Sees w w.heap.size 2 A n (smps zs)) (hn : n ≤ 9223372036854775807) (hz : ∀ z ∈ zs, I64 z.1 ∧ I64 z.2) :
    Calls Try.prog 4 #[.int .i64 room, .slice A n cA] w fun e w' => e = .returned (.bool true) ∧ Below w.heap.size w w' := by
  obtain ⟨i0, hi, hz0, hz1, hz2⟩ := info_parts Try.infoNote
  have HCL := Lib.hid (clamp_any room 1 8 w (by omega))
  rw [near_cap] at HCL
  obtain ⟨hr1, hr8⟩ := capN_in room
  have HBN := Lib.hid (bnew_any room w)
  have HS := Lib.hid hs; have HZ := Lib.hid hz
  generalize capN room = r at *
  clear hr hs hz
  go_enter Try.func4, Try.ntmps4
  go_wp2_with fail
  (with_reducible refine HCL.out.mono ?_); rintro e wq ⟨rfl, rfl⟩
  go_wp2_with fail
  (with_reducible refine HBN.out.mono ?_); rintro e w1 ⟨b, c, rfl, hb1, hgb, hgc, hbel1⟩
  have HB1 := Lib.hid hb1; have HL1 := Lib.hid hbel1
  clear hb1 hbel1 HCL HBN
  obtain ⟨K, hK⟩ : ∃ K, min n 40 = K := ⟨_, rfl⟩
  have hK1 : K ≤ n ∧ K ≤ 40 := by omega
  obtain ⟨hKn, hK4⟩ := hK1
  have HK := Lib.hid hK
  clear hK
  go_wp2_with fail
  go_loopg [7, 8, 9, 10, 11] K (fun g x7 x8 x9 x10 x11 wr => ∃ (i d nx tk : Nat) (os l : List NV), i + g = K ∧ x11 = .int .i64 i ∧ x8 = .int .i64 nx ∧ x9 = .int .i64 d ∧ x10 = .int .i64 tk ∧ PlAt w x7 os wr ∧ BAt b c r d l wr ∧ l.map NV.key = os.map NV.key ∧ os.length ≤ r ∧ nx = tk + d + os.length ∧ nx ≤ 11 * i ∧ ∀ x ∈ os, x.al.length ≤ 1)
  case atStart => exact ⟨0, 0, 0, 0, [], [], by omega, rfl, rfl, rfl, rfl, (PlAt.nil w).below HL1.out, HB1.out, rfl, by simp, by simp, by omega, (fun x hx => by cases hx)⟩
  case round =>
    obtain ⟨i, d, nx, tk, os, l, hig, rfl, rfl, rfl, rfl, hp, hb, hkey, hos, hnx, hnx2, hal⟩ := hrel
    have HP := Lib.hid hp; have HB := Lib.hid hb; have HKY := Lib.hid hkey; have HAL := Lib.hid hal; have HNX := Lib.hid hnx
    clear hp hb hkey hal hnx HB1 HL1
    cases gk with
    | zero =>
      obtain rfl : i = K := by omega
      have HF := Lib.hid HP.out.bel
      have hK' := HK.out
      have hcs : (i < n ∧ ¬ i < 40) ∨ ¬ i < n := by omega
      clear HP HB hK'
      rcases hcs with ⟨h1, h2⟩ | h1
      all_goals
        go_wp2_with fail
        (with_reducible refine (mail_runs _).mono ?_); rintro e wq ⟨rfl, hbq⟩
        have HF2 := Lib.hid (HF.out.trans (hbq.mono HF.out.size))
        clear hbq
        go_wp2_with fail
        go_ret
        exact ⟨rfl, HF2.out⟩
    | succ gout =>
      have hiK : i < K := by omega
      have hin : i < n := by omega
      have hi40 : i < 40 := by omega
      have hi40i : ((i : Nat) : Int) < 40 := by omega
      have hi40d : decide (((i : Nat) : Int) < 40) = true := decide_eq_true hi40i
      obtain ⟨adz, hkz, rfl, e0, e1⟩ := (HS.out.below HP.out.bel).smp hin
      have HSC := Lib.hid (show ∀ W : World, Below w.heap.size w W → W.cell? (adz.add (i * 2)) = some (.int .i64 zs[i].1) ∧ W.cell? ⟨(adz.add (i * 2)).block, (adz.add (i * 2)).off + 1, none⟩ = some (.int .i64 zs[i].2) from fun W hW => by
        obtain ⟨ad', _, he, h0, h1⟩ := (HS.out.below hW).smp hin
        injection he with he; subst he
        exact ⟨h0, h1⟩)
      have hzz := HZ.out zs[i] (List.getElem_mem _)
      generalize zs[i] = zi at *
      obtain ⟨kd, am⟩ := zi
      obtain ⟨hkd, ham⟩ := hzz
      simp only at e0 e1 hkd ham HSC
      obtain ⟨hM0, hM1⟩ := nWithin_in am (lo := 0) (hi := 11) (by omega)
      have HWN := Lib.hid (fun W => within_any am 0 11 W ham (by omega) (by omega) (by omega))
      generalize nWithin am 0 11 = M' at *
      obtain ⟨M, rfl⟩ := Int.eq_ofNat_of_zero_le hM0
      by_cases hk1 : kd = 1
      · subst hk1
        obtain ⟨B2, hB2⟩ : ∃ B2, wr.heap.size = B2 := ⟨_, rfl⟩
        have HBE := Lib.hid hB2
        have hwB : w.heap.size ≤ B2 := by rw [← hB2]; exact HP.out.bel.size
        clear hB2
        go_wp2_with fail
        go_loopg [7, 8, 12, 13, 14] M (fun g x7 x8 x12 x13 x14 wr2 => ∃ (q nq gq : Nat) (xs : List NV), q + g = M ∧ x14 = .int .i64 q ∧ x8 = .int .i64 nq ∧ nq = nx + q ∧ x13 = .int .i64 gq ∧ gq = os.length + q - r ∧ xs.length = q ∧ wr2.ownsRow B2 27 3 x12 xs.length (ncells xs) ∧ (∀ x ∈ xs, NOk wr2 x ∧ x.al.length ≤ 1) ∧ PlAt w x7 (lastN r (os ++ xs)) wr2 ∧ BAt b c r d l wr2 ∧ B2 ≤ wr2.heap.size ∧ Apart x7 x12)
        case atStart => exact ⟨0, nx, 0, [], by omega, rfl, rfl, by omega, rfl, by omega, rfl, by simpa [ncells] using World.ownsRow_nil wr B2 27 3, (fun x hx => by cases hx), by rw [List.append_nil, lastN_few hos]; exact HP.out, HB.out, by rw [HBE.out]; exact Nat.le_refl _, (fun _ _ _ _ _ h => by cases h)⟩
        case round =>
          obtain ⟨q, nq, gq, xs, hqg, rfl, rfl, hnq, rfl, hgq, hxl, hown, hxok, hp, hb, hB2, hap⟩ := hrel
          have HAP := Lib.hid hap
          clear hap
          have HO := Lib.hid hown; have HXO := Lib.hid hxok; have HP2 := Lib.hid hp; have HB2 := Lib.hid hb; have HNQ := Lib.hid hnq; have HGQ := Lib.hid hgq; have HXL := Lib.hid hxl
          clear hown hxok hp hb hnq hgq hxl HP HB
          cases gk with
          | zero => as_aux_lemma =>
            obtain rfl : q = M := by omega
            have hxq := HXL.out
            have hlos : l.length = os.length := by have := congrArg List.length HKY.out; simpa using this
            obtain ⟨A12, c12, rfl, hc12, hd12⟩ := own_slice HO.out
            have hPU := Put_any b c r d l A12 xs.length c12 xs _ HB2.out ⟨hr1, hr8⟩ (Sees.of_own HO.out) (note_typed HO.out) (fun z hz => (HXO.out z hz).1) (fun z hz => by have := (HXO.out z hz).2; omega) (by omega) (by have := HNX.out; omega)
            rw [show l.length + xs.length - r = gq by have := HGQ.out; omega] at hPU
            have HPU := Lib.hid hPU
            clear hPU hxq
            obtain ⟨A7, c7, hv7, _⟩ := HP2.out.slc
            subst hv7
            clear e0 e1
            obtain ⟨e0, e1⟩ := HSC.out _ HP2.out.bel
            go_wp2_with fail
            (with_reducible refine (HWN.out _).mono ?_); rintro e wq ⟨rfl, rfl⟩
            go_wp2_with fail
            (with_reducible refine HPU.out.mono ?_); rintro e w3 ⟨l2, rfl, hb3, hk3, hm3, _⟩
            have HB3 := Lib.hid hb3; have HP3 := Lib.hid (HP2.out.mwr HB2.out.bc hm3 hgb hgc)
            have HK3 := Lib.hid (show l2.map NV.key = (lastN r (os ++ xs)).map NV.key by rw [hk3, List.map_append, HKY.out, lastN_map, List.map_append])
            clear hb3 hk3 hm3 HPU HP2 HB2 HO
            obtain ⟨d2, hd2⟩ : ∃ d2, d + gq = d2 := ⟨_, rfl⟩
            have i1 : IntKind.i64.wrap (((d : Nat) : Int) + ((gq : Nat) : Int)) = ((d2 : Nat) : Int) := by rw [show ((d : Nat) : Int) + ((gq : Nat) : Int) = ((d2 : Nat) : Int) by omega]; exact IntWalk.i64_in _ (by have h1 := HNX.out; have h2 := HGQ.out; omega)
            rw [show ((d : Nat) : Int) + ((gq : Nat) : Int) = ((d2 : Nat) : Int) by omega] at HB3
            have HAO := Lib.hid (show ∀ z ∈ lastN r (os ++ xs), z.al.length ≤ 1 from fun z hz => by
              rcases List.mem_append.1 (List.mem_of_mem_drop hz) with h | h
              · exact HAL.out z h
              · exact (HXO.out z h).2)
            have HLO := Lib.hid (show (lastN r (os ++ xs)).length = min (os.length + xs.length) r by rw [lastN_length, List.length_append])
            generalize lastN r (os ++ xs) = os2 at *
            have HOSL := Lib.hid (show os2.length ≤ r by have := HLO.out; omega)
            have HNX2 := Lib.hid (show nq = tk + d2 + os2.length by have h1 := HNX.out; have h2 := HGQ.out; have h3 := HLO.out; have h4 := HNQ.out; have h5 := HXL.out; omega)
            have HNQ2 := Lib.hid (show nq ≤ 11 * (i + 1) by have := HNQ.out; omega)
            have HLL := Lib.hid (show l2.length = os2.length by have := congrArg List.length HK3.out; simpa using this)
            have HAA := Lib.hid (All_any b c r _ l2 _ HB3.out (by omega) (keys_le HK3.out (fun z hz => by have := HAO.out z hz; omega)))
            rw [HLL.out] at HAA
            go_wp2_with fail
            (with_reducible refine HAA.out.mono ?_); rintro e w4 ⟨A9, c9, ys, rfl, how, hky, hns, hb4, hm4, _⟩
            have HP4 := Lib.hid (HP3.out.mwr HB3.out.bc hm4 hgb hgc)
            have HNT := Lib.hid (show Calls Try.prog 14 #[.slice A9 os2.length c9, .slice A7 os2.length c7] w4 fun e w' => e = .returned (.bool true) ∧ ∃ m, w' = w4.drewN m from by
              obtain ⟨A', c', hv, hs, _⟩ := HP4.out.slc
              injection hv with hv1 hv2 hv3
              subst hv1; subst hv3
              exact notes_same _ _ _ _ _ _ _ _ ys os2 _ (Sees.of_own how) hs hns.ok HP4.out.ok (by rw [hky, HK3.out]) (by have := HOSL.out; omega) (keys_le (hky.trans HK3.out) (fun z hz => by have := HAO.out z hz; omega)))
            have HB4 := Lib.hid hb4
            clear how hky hns hb4 hm4 HAA HB3 HP3
            go_wp2_with fail
            (with_reducible refine HNT.out.mono ?_); rintro e w5 ⟨rfl, m5, rfl⟩
            have HDR := Lib.hid (belowD (Below.refl w4.heap.size w4) m5)
            have HP5 := Lib.hid (HP4.out.below HDR.out); have HB5 := Lib.hid (HB4.out.below HDR.out)
            clear HDR HP4 HB4 HNT i1 hd2 hlos HXO HGQ
            go_upto_region 33 with fail
            have hln : l2.length = os2.length := by have := congrArg List.length HK3.out; simpa using this
            have HCN := Lib.hid (blen_any b c r _ l2 _ HB5.out); have HCD := Lib.hid (bdropped_any b c r _ l2 _ HB5.out)
            rw [hln] at HCN
            have hosr : os2.length ≤ 8 := by have := HOSL.out; omega
            have j1 : IntKind.i64.wrap (((tk : Nat) : Int) + ((d2 : Nat) : Int)) = ((tk : Nat) : Int) + ((d2 : Nat) : Int) := IntWalk.i64_in _ (by have := HNX2.out; have := HNQ2.out; omega)
            have j2 : IntKind.i64.wrap (((tk : Nat) : Int) + ((d2 : Nat) : Int) + ((os2.length : Nat) : Int)) = ((tk : Nat) : Int) + ((d2 : Nat) : Int) + ((os2.length : Nat) : Int) := IntWalk.i64_in _ (by have := HNX2.out; have := HNQ2.out; omega)
            have j3 : ((((nq : Nat) : Int)) != ((tk : Nat) : Int) + ((d2 : Nat) : Int) + ((os2.length : Nat) : Int)) = false := by rw [show (((nq : Nat) : Int)) = ((tk : Nat) : Int) + ((d2 : Nat) : Int) + ((os2.length : Nat) : Int) by have := HNX2.out; omega]; simp
            clear hln
            go_wp2_with fail
            (with_reducible refine HCN.out.mono ?_); rintro e wq ⟨rfl, rfl⟩
            go_wp2_with fail
            (with_reducible refine HCD.out.mono ?_); rintro e wq ⟨rfl, rfl⟩
            go_wp2_with fail
            go_roundg gout
            case measure => omega
            case rel => exact ⟨i + 1, d2, nq, tk, os2, l2, by omega, by go_num, rfl, rfl, rfl, HP5.out, HB5.out, HK3.out, HOSL.out, HNX2.out, by have := HNQ2.out; omega, HAO.out⟩
          | succ gin =>
            have hqM : q < M := by omega
            have hnq5 : nq ≤ 500 := by have := HNQ.out; omega
            clear e0 e1
            obtain ⟨e0, e1⟩ := HSC.out _ HP2.out.bel
            go_wp2_with fail
            (with_reducible refine (HWN.out _).mono ?_); rintro e wq ⟨rfl, rfl⟩
            obtain ⟨g1, hg1⟩ : ∃ gt, (⟨#[UInt8.ofNat (97 + nq % 26)]⟩ : ByteArray) = gt := ⟨_, rfl⟩
            have hcv1 := fun W => conv_one W (UInt8.ofNat (97 + nq % 26)) (97 + (nq : Int) % 26) (by rw [UInt8.toNat_ofNat_of_lt' (by show 97 + nq % 26 < 256; omega)]; omega)
            rw [hg1] at hcv1
            obtain ⟨g2, hg2⟩ : ∃ gt, (⟨#[UInt8.ofNat (97 + nq / 26 % 26)]⟩ : ByteArray) = gt := ⟨_, rfl⟩
            have hcv2 := conv_one (wr.alloc (.cells #[.int .u8 (97 + (nq : Int) % 26)] 5)) (UInt8.ofNat (97 + nq / 26 % 26)) (97 + (nq : Int) / 26 % 26) (by rw [UInt8.toNat_ofNat_of_lt' (by show 97 + nq / 26 % 26 < 256; omega)]; omega)
            rw [hg2] at hcv2
            simp only [World.size_alloc] at hcv2
            clear hg1 hg2
            go_upto_region 18 with fail
            have HXB := Lib.hid (Blk.mk (heap_alloc_new ((wr.alloc (.cells #[.int .u8 (97 + (nq : Int) % 26)] 5)).alloc (.cells #[.int .u8 (97 + (nq : Int) / 26 % 26)] 5)) (.cells #[.string g2] 9)) : Blk _ _ 9 (strs [g2]))
            have HXK := Lib.hid (show NOk (((wr.alloc (.cells #[.int .u8 (97 + (nq : Int) % 26)] 5)).alloc (.cells #[.int .u8 (97 + (nq : Int) / 26 % 26)] 5)).alloc (.cells #[.string g2] 9)) (⟨⟨#[116]⟩, g1, some ⟨wr.heap.size + 1 + 1, 0, none⟩, 1, [g2]⟩ : NV) from ⟨by have h := HXB.out.sees (size := 1) (n := 1) rfl (List.prefix_refl _); simpa using h, by have h := typed_blk (n := 1) HXB.out; simpa using h, Nat.le_refl _, by simp⟩)
            have HX3 := Lib.hid (HXK.out.below ((Below.refl _ _).alloc (Nat.le_refl _) (.cells #[.string ⟨#[116]⟩, .string g1, .slice (some ⟨wr.heap.size + 1 + 1, 0, none⟩) 1 1] 27)))
            have HBE3 := Lib.hid ((((Below.refl wr.heap.size wr).alloc (Nat.le_refl _) (.cells #[.int .u8 (97 + (nq : Int) % 26)] 5)).alloc (by simp) (.cells #[.int .u8 (97 + (nq : Int) / 26 % 26)] 5)).alloc (by simp; omega) (.cells #[.string g2] 9) |>.alloc (by simp; omega) (.cells #[.string ⟨#[116]⟩, .string g1, .slice (some ⟨wr.heap.size + 1 + 1, 0, none⟩) 1 1] 27))
            have HK3 := Lib.hid (show Blk ((((wr.alloc (.cells #[.int .u8 (97 + (nq : Int) % 26)] 5)).alloc (.cells #[.int .u8 (97 + (nq : Int) / 26 % 26)] 5)).alloc (.cells #[.string g2] 9)).alloc (.cells #[.string ⟨#[116]⟩, .string g1, .slice (some ⟨wr.heap.size + 1 + 1, 0, none⟩) 1 1] 27)) (wr.heap.size + 1 + 1 + 1) 27 (⟨⟨#[116]⟩, g1, some ⟨wr.heap.size + 1 + 1, 0, none⟩, 1, [g2]⟩ : NV).cells by
              have h := (Blk.mk (heap_alloc_new (((wr.alloc (.cells #[.int .u8 (97 + (nq : Int) % 26)] 5)).alloc (.cells #[.int .u8 (97 + (nq : Int) / 26 % 26)] 5)).alloc (.cells #[.string g2] 9)) (.cells #[.string ⟨#[116]⟩, .string g1, .slice (some ⟨wr.heap.size + 1 + 1, 0, none⟩) 1 1] 27)) : Blk _ _ 27 (⟨⟨#[116]⟩, g1, some ⟨wr.heap.size + 1 + 1, 0, none⟩, 1, [g2]⟩ : NV).cells)
              simpa using h)
            have HRL := Lib.hid (fun y hy => (HO.out.lt y hy).2)
            obtain ⟨x, hx⟩ : ∃ x : NV, (⟨⟨#[116]⟩, g1, some ⟨wr.heap.size + 1 + 1, 0, none⟩, 1, [g2]⟩ : NV) = x := ⟨_, rfl⟩
            have HX1 := Lib.hid (show x.al.length = 1 by rw [← hx]; rfl)
            rw [hx] at HX3 HK3
            obtain ⟨W, hW⟩ : ∃ W, (((wr.alloc (.cells #[.int .u8 (97 + (nq : Int) % 26)] 5)).alloc (.cells #[.int .u8 (97 + (nq : Int) / 26 % 26)] 5)).alloc (.cells #[.string g2] 9)).alloc (.cells #[.string ⟨#[116]⟩, .string g1, .slice (some ⟨wr.heap.size + 1 + 1, 0, none⟩) 1 1] 27) = W := ⟨_, rfl⟩
            rw [hW] at HX3 HK3 HBE3
            rw [hW]
            have HWZ := Lib.hid (show wr.heap.size + 1 + 1 + 1 < W.heap.size by rw [← hW]; simp)
            clear hW hx HXB HXK hcv1 hcv2 e0 e1
            have HO3 := Lib.hid (own_below HO.out HBE3.out (Nat.le_refl _)); have HP3 := Lib.hid (HP2.out.below HBE3.out); have HB3 := Lib.hid (HB2.out.below HBE3.out)
            have HXO3 := Lib.hid (show ∀ z ∈ xs, NOk W z ∧ z.al.length ≤ 1 from fun z hz => ⟨(HXO.out z hz).1.below HBE3.out, (HXO.out z hz).2⟩)
            have HRB := Lib.hid (show ∀ y, u12.ownBlock = some y → y < wr.heap.size + 1 + 1 + 1 from fun y hy => by have := HRL.out y hy; omega)
            clear HRL HO HP2 HB2 HXO
            generalize wr.heap.size + 1 + 1 + 1 = K15 at *
            have i1 : IntKind.i64.wrap (((nq : Nat) : Int) + 1) = ((nq + 1 : Nat) : Int) := by rw [show ((nq : Nat) : Int) + 1 = ((nq + 1 : Nat) : Int) by omega]; exact IntWalk.i64_in _ (by omega)
            obtain ⟨nq2, hnq2⟩ : ∃ n2, nq + 1 = n2 := ⟨_, rfl⟩
            rw [hnq2] at i1
            have HNQ3 := Lib.hid (show nq2 = nx + (q + 1) by have := HNQ.out; omega)
            clear hnq2
            go_upto_region 19 with fail
            go_cut [7, 12] (fun x7 x12 wx => wx.ownsRow B2 27 3 x12 (xs ++ [x]).length (ncells (xs ++ [x])) ∧ PlAt w x7 (lastN r (os ++ xs) ++ [x]) wx ∧ BAt b c r d l wx ∧ (∀ z ∈ xs ++ [x], NOk wx z ∧ z.al.length ≤ 1) ∧ B2 ≤ wx.heap.size ∧ Apart x7 x12)
            case first =>
              obtain ⟨A12, c12, rfl, hc12, hd12⟩ := own_slice HO3.out
              obtain ⟨A7, c7, hv7, hs7, ht7, hc7, hd7⟩ := HP3.out.slc
              subst hv7
              have HS7 := Lib.hid hs7; have HT7 := Lib.hid ht7
              clear hs7 ht7
              obtain ⟨z0, z1, z2⟩ := box3 (show Blk W K15 27 [.string x.dst, .string x.group, .slice x.A x.al.length x.c] from HK3.out)
              have hK15 := HK3.out.lt
              have HLXS := Lib.hid (show xs.length ≤ 11 by have := HXL.out; omega)
              have HBW := Lib.hid (Nat.le_trans hB2 HBE3.out.size)
              have tok71 : True := trivial
              have HQ0 := Lib.hid (show Q0 w B2 b c r d l (lastN r (os ++ xs)) xs (.slice A7 (lastN r (os ++ xs)).length c7) (.slice A12 xs.length c12) x W from ⟨HP3.out, HB3.out, fun z hz => (HXO3.out z hz).1, HX3.out, HO3.out, HAP.out⟩)
              have HLR := Lib.hid (show (lastN r (os ++ xs)).length ≤ 8 by rw [lastN_length]; omega)
              generalize lastN r (os ++ xs) = L at *
              have hwz := HWZ.out
              have tok74 : True := trivial
              have tok77 : True := trivial
              have HPB := Lib.hid (show w.heap.size ≤ W.heap.size from HP3.out.bel.size)
              have HXP := Lib.hid (show ∀ z ∈ xs ++ [x], z.al.length ≤ 1 from fun z hz => by
                rcases List.mem_append.1 hz with hz | hz
                · exact (HXO3.out z hz).2
                · rw [List.mem_singleton.1 hz]; exact Nat.le_of_eq HX1.out)
              go_region_law (first
                | (have tk := tok71
                   refine step_append_w rfl (.tmp 68) (.tmp 70) 34 rfl B2 27 i0 (.agg #[.string ⟨#[]⟩, .string ⟨#[]⟩, .slice none 0 0]) 3 56 Try.underlying34 hi hz0 hz1 hz2 rfl (by decide) (.slice A12 xs.length c12) xs.length (ncells xs) (by first | rfl | simp [Act.eval]) ?own _ _ 1 1 (ncells [x]) (by first | rfl | simp [Act.eval]) (blk_sees1 ?blk) (ncells_one _) (by have := HLXS.out; unfold maxLen; omega) (by have := HLXS.out; omega) ?base ?_
                   case own => repeat (first | exact HO3.out | (with_reducible refine own_dr ?_) | (with_reducible refine own_al _ ?_))
                   case base => (have := HBW.out; first | omega | (simp; omega))
                   case blk => repeat (first | (with_reducible exact blk_t1 _ _ _) | (with_reducible exact blk_t2 _ _ _ _) | (with_reducible exact blk_t3 _ _ _ _ _) | (with_reducible refine Blk.drew1 ?_) | (with_reducible refine Blk.alloc ?_ _))
                   clear tok71 tk
                   intro A8 c8 w8 hown8 hgr8 hwh8
                   have HQ1 : Hid (Q1 w B2 b c r d l L xs (.slice A7 L.length c7) (.slice A8 (xs.length + 1) c8) x w8) := by
                     refine Lib.hid (Q0.app ?_ hgr8 hown8 hwB)
                     repeat (first | exact HQ0.out | (with_reducible refine Q0.drew ?_) | (with_reducible refine Q0.alloc _ ?_))
                   have HK8 : Hid (Blk w8 K15 27 [.string x.dst, .string x.group, .slice x.A x.al.length x.c]) := by
                     refine Lib.hid (Blk.grown ?_ hgr8 ?_)
                     · repeat (first | exact HK3.out | (with_reducible refine Blk.drew1 ?_) | (with_reducible refine Blk.alloc ?_ _))
                     · exact fun e => Nat.lt_irrefl _ (HRB.out K15 e.symm)
                   obtain ⟨y0, y1, y2⟩ := box3 HK8.out
                   have hk8 := HK8.out.lt
                   have HG8 := Lib.hid hgr8; have HW8 := Lib.hid hwh8
                   have hz8 := hgr8.size
                   try simp at hz8
                   clear hown8 hgr8 hwh8)
                | (have tk := tok74
                   refine step_q3 (g := _) (A := A7) (c7 := c7) (w0 := w) (B := B2) (b := b) (c := c) (r := r) (d := (d : Int)) (l := l) (xs := xs) (L := L) (u := .slice A8 (xs.length + 1) c8) (x := x) rfl (.tmp 72) (.tmp 73) rfl i0 hi hz0 hz1 hz2 HLR.out (by first | rfl | (simp [Act.eval]; done)) (by first | rfl | (simp [Act.eval]; done)) ?_ ?_ ?_ ?_
                   · repeat (first | (with_reducible exact blk_t1 _ _ _) | (with_reducible exact blk_t2 _ _ _ _) | (with_reducible exact blk_t3 _ _ _ _ _) | (with_reducible refine Blk.grown ?_ HG8.out ?_) | (with_reducible refine Blk.drew1 ?_) | (with_reducible refine Blk.alloc ?_ _) | (with_reducible exact ne_own0 HRB.out HWZ.out) | (with_reducible exact ne_own1 HRB.out HWZ.out) | (with_reducible exact ne_own2 HRB.out HWZ.out))
                   · first | (with_reducible exact HPB.out) | (with_reducible exact le_al _ _ _ HPB.out) | (with_reducible exact le_al _ _ _ (le_al _ _ _ HPB.out)) | (with_reducible exact Nat.le_trans HPB.out HG8.out.size) | (have h7 := HPB.out; have h8 := HG8.out.size; first | omega | (simp only [World.size_alloc, World.size_drew] at *; omega))
                   · repeat (first | exact HQ1.out | (with_reducible refine Q1.drew ?_) | (with_reducible refine Q1.alloc _ ?_))
                   clear tok74 tk
                   intro A9 c9 w9 hq9 hbl9
                   have HQ3 := Lib.hid hq9
                   have HG9 := Lib.hid hbl9
                   have HK9 : Hid (Blk w9 K15 27 [.string x.dst, .string x.group, .slice x.A x.al.length x.c]) := by
                     refine Lib.hid (Blk.below ?_ hbl9 ?_)
                     · repeat (first | exact HK8.out | (with_reducible refine Blk.drew1 ?_) | (with_reducible refine Blk.alloc ?_ _))
                     · have h7 := HK8.out.lt; first | omega | (simp only [World.size_alloc, World.size_drew]; omega) | (simp; done) | (simp; omega)
                   obtain ⟨x0, x1, x2⟩ := box3 HK9.out
                   have hk9 := HK9.out.lt
                   have hz9 := hbl9.size
                   try simp at hz9
                   clear hq9 hbl9)
                | (have tk := tok77
                   refine step_fin (g := _) (A := A9) (c9 := c9) (w0 := w) (B := B2) (b := b) (c := c) (r := r) (d := (d : Int)) (l := l) (xs := xs) (L := L) (u := .slice A8 (xs.length + 1) c8) (x := x) rfl (.tmp 74) (.tmp 76) rfl i0 hi hz0 hz1 hz2 HLR.out (by first | rfl | (simp [Act.eval]; done)) (by first | rfl | (simp [Act.eval]; done)) ?_ ?_ ?_
                   · repeat (first | (with_reducible exact blk_t1 _ _ _) | (with_reducible exact blk_t2 _ _ _ _) | (with_reducible exact blk_t3 _ _ _ _ _) | (with_reducible refine Blk.below ?_ HG9.out ?_) | (with_reducible refine Blk.grown ?_ HG8.out ?_) | (with_reducible refine Blk.drew1 ?_) | (with_reducible refine Blk.alloc ?_ _) | (with_reducible exact ne_own0 HRB.out HWZ.out) | (with_reducible exact ne_own1 HRB.out HWZ.out) | (with_reducible exact ne_own2 HRB.out HWZ.out) | (exact lt_al1 _ _) | (exact lt_al2 _ _ _) | (exact lt_al12 _ _ _) | (exact lt_gr0 HG8.out) | (exact lt_gr1 HG8.out) | (exact lt_gr2 HG8.out) | (have h7 := HG8.out.size; first | omega | (simp at h7 ⊢; omega)))
                   · first | ((repeat (first | exact HQ3.out | (with_reducible refine Q3.drew ?_) | (with_reducible refine Q3.alloc _ ?_))); done)
                   clear tok77 tk
                   intro A10 c10 w10 hfin
                   have HFN := Lib.hid hfin
                   clear hfin)
                | fail)
              all_goals
                go_wp2_with fail
                go_meet
                exact fin_out HFN.out HXP.out
            case rest => as_aux_lemma =>
              obtain ⟨hown, hp, hb, hxok, hB5, hap⟩ := hcut
              have HO5 := Lib.hid hown; have HP5 := Lib.hid hp; have HB5 := Lib.hid hb; have HXO5 := Lib.hid hxok; have HAP5 := Lib.hid hap
              clear hown hp hb hxok hap HO3 HP3 HB3 HXO3 HK3 HX3 HAP HBE3
              have HLM := Lib.hid (show lastN r (os ++ (xs ++ [x])) = (lastN r (os ++ xs) ++ [x]).drop ((lastN r (os ++ xs)).length + 1 - r) by rw [← List.append_assoc]; exact lastN_more _ _ hr1)
              have HLL := Lib.hid (show (lastN r (os ++ xs)).length = min (os.length + q) r by rw [lastN_length, List.length_append, HXL.out])
              generalize lastN r (os ++ xs) = L at *
              obtain ⟨A7, c7, hv7, hs7, ht7, hc7, hd7⟩ := HP5.out.slc
              obtain ⟨N, hN⟩ : ∃ N, (L ++ [x]).length = N := ⟨_, rfl⟩
              have hN1 : N = L.length + 1 := by rw [← hN, List.length_append]; rfl
              rw [hN] at hv7 hs7 ht7 hc7
              have HNN := Lib.hid hN1
              subst hv7
              clear hN hN1
              by_cases hfull : r < N
              · have hLr : L.length = r := by have h1 := HNN.out; have h2 := HLL.out; omega
                have HGN := Lib.hid (show gq + 1 = os.length + (q + 1) - r by have h1 := HGQ.out; have h2 := HLL.out; omega)
                have i2 : IntKind.i64.wrap (((gq : Nat) : Int) + 1) = ((gq + 1 : Nat) : Int) := by rw [show ((gq : Nat) : Int) + 1 = ((gq + 1 : Nat) : Int) by omega]; exact IntWalk.i64_in _ (by have := HGQ.out; omega)
                obtain ⟨gq2, hgq2⟩ : ∃ g2, gq + 1 = g2 := ⟨_, rfl⟩
                rw [hgq2] at i2 HGN
                clear hgq2
                obtain ⟨ad0, e, _⟩ := hs7.at_ (show 0 < N by omega)
                subst e
                have hs8 := hs7.drop (k := 1) (cap := c7) (by omega) (by omega)
                rw [if_neg (by omega), ncells_drop] at hs8
                obtain ⟨cs0, f0, ht0⟩ := ht7 ad0 rfl (by omega)
                have hld : ((L ++ [x]).drop 1).length = N - 1 := by rw [List.length_drop, List.length_append, List.length_singleton]; have := HNN.out; omega
                have HPX := Lib.hid (show PlAt w (.slice (some (ad0.add 3)) (N - 1) (c7 - 1)) ((L ++ [x]).drop 1) wc from ⟨⟨_, c7 - 1, by rw [hld], by rw [hld]; exact hs8, fun ad ha hp => by injection ha with ha; subst ha; rw [add_block]; exact ⟨_, _, ht0⟩, by rw [hld]; omega, by omega⟩, fun z hz => HP5.out.ok z (List.mem_of_mem_drop hz), HP5.out.bel⟩)
                have HAP6 := Lib.hid (show Apart (.slice (some (ad0.add 3)) (N - 1) (c7 - 1)) u12 from fun A n c hv hp => by
                  injection hv with hv1 _ _
                  injection hv1 with hv1
                  subst hv1
                  rw [add_block]
                  exact HAP5.out ad0 N c7 rfl (by omega))
                rw [show L.length + 1 - r = 1 by omega] at HLM
                have hc71 : c7 ≠ 1 := by omega
                have hN2 : (1 : Int) ≤ (N : Nat) := by omega
                clear hs7 hs8 ht7 ht0 hld hLr
                have i5 : IntKind.i64.wrap (((q : Nat) : Int) + 1) = ((q : Nat) : Int) + 1 := IntWalk.i64_in _ (by omega)
                go_wp2_with fail
                go_roundg gin
                case measure => omega
                case rel => exact ⟨q + 1, nq2, gq2, xs ++ [x], by omega, by go_num, rfl, HNQ3.out, rfl, HGN.out, by rw [List.length_append, HXL.out]; rfl, HO5.out, HXO5.out, by rw [HLM.out]; exact HPX.out, HB5.out, hB5, HAP6.out⟩
              · have HGN := Lib.hid (show gq = os.length + (q + 1) - r by have h1 := HGQ.out; have h2 := HLL.out; have h3 := HNN.out; omega)
                rw [show L.length + 1 - r = 0 by have := HNN.out; omega, List.drop_zero] at HLM
                have hnf : ¬ ((r : Nat) : Int) < (N : Nat) := by omega
                clear hs7 ht7
                have i5 : IntKind.i64.wrap (((q : Nat) : Int) + 1) = ((q : Nat) : Int) + 1 := IntWalk.i64_in _ (by omega)
                go_wp2_with fail
                go_roundg gin
                case measure => omega
                case rel => exact ⟨q + 1, nq2, gq, xs ++ [x], by omega, by go_num, rfl, HNQ3.out, rfl, HGN.out, by rw [List.length_append, HXL.out]; rfl, HO5.out, HXO5.out, by rw [HLM.out]; exact HP5.out, HB5.out, hB5, HAP5.out⟩
      · have b1 : (kd == 1) = false := beq_eq_false_iff_ne.2 hk1
        by_cases hk2 : kd = 2
        · subst hk2
          clear HWN b1 hk1
          cases os with
          | nil =>
            obtain rfl : l = [] := by have := HKY.out; simpa using this
            have HT := Lib.hid (Take_no b c r d _ HB.out)
            unfold NV.val NV.zero at HT
            simp only [List.length_nil] at HT
            go_wp2_with fail
            (with_reducible refine HT.out.mono ?_); rintro e w5 ⟨rfl, hb5, hbe5⟩
            have HB5 := Lib.hid (hb5.alloc (.cells #[.string ⟨#[]⟩, .string ⟨#[]⟩, .slice none 0 0] 27)); have HP5 := Lib.hid ((HP.out.below hbe5).alloc (.cells #[.string ⟨#[]⟩, .string ⟨#[]⟩, .slice none 0 0] 27))
            have HK5 := Lib.hid (Blk.mk (heap_alloc_new w5 (.cells #[.string ⟨#[]⟩, .string ⟨#[]⟩, .slice none 0 0] 27)) : Blk _ _ 27 [.string ⟨#[]⟩, .string ⟨#[]⟩, .slice none 0 0])
            clear hb5 hbe5 HT HB HP
            go_upto_region 29 with fail
            obtain ⟨W, hW⟩ : ∃ W, w5.alloc (.cells #[.string ⟨#[]⟩, .string ⟨#[]⟩, .slice none 0 0] 27) = W := ⟨_, rfl⟩
            rw [hW] at HB5 HP5 HK5
            rw [hW]
            clear hW
            generalize w5.heap.size = K16 at *
            obtain ⟨A7, c7, hv7, _⟩ := HP5.out.slc
            simp only [List.length_nil] at hv7
            subst hv7
            go_cut [133] (fun x133 wx => x133 = .bool false ∧ PlAt w (.slice A7 0 c7) [] wx ∧ BAt b c r d [] wx)
            case first =>
              have HNT := Lib.hid (show ∀ (W : World) (b9 b8 : Nat), Blk W b9 27 [.string ⟨#[]⟩, .string ⟨#[]⟩, .slice none 0 0] → Blk W b8 27 [.string ⟨#[]⟩, .string ⟨#[]⟩, .slice none 0 0] →
                  Calls Try.prog 14 #[.slice (some ⟨b9, 0, none⟩) 1 1, .slice (some ⟨b8, 0, none⟩) 1 1] W fun e w' => e = .returned (.bool true) ∧ Below W.heap.size W w' from fun W b9 b8 h1 h2 => by
                refine (notes_same _ _ 1 1 1 1 _ _ [NV.zero] [NV.zero] W (Blk.sees h1 rfl (List.prefix_refl _)) (Blk.sees h2 rfl (List.prefix_refl _)) (fun v hv => by rw [List.mem_singleton.1 hv]; exact NOk.zero _) (fun v hv => by rw [List.mem_singleton.1 hv]; exact NOk.zero _) rfl (by omega) (fun v hv => by rw [List.mem_singleton.1 hv]; simp [NV.zero])).mono ?_
                rintro e w' ⟨rfl, m, rfl⟩
                exact ⟨rfl, belowD (Below.refl _ _) m⟩)
              refine wp_region_facts (R := fun a b => Below a.heap.size a b) (G := (fun W => PlAt w (.slice A7 0 c7) [] W ∧ BAt b c r d [] W ∧ Blk W K16 27 [.string ⟨#[]⟩, .string ⟨#[]⟩, .slice none 0 0])) (V := fun i' u' W => match i' with | 0 => u' = .bool false | 1 => u' = .slice A7 0 c7 | 2 => u' = .int .i64 0 | 3 => u' = .bool false | 4 => u' = .bool false | 5 => u' = .bool false | 6 => u' = .bool false | 7 => u' = .bool false | 8 => True | 9 => True | 10 => True | 11 => True | 12 => True | 13 => True | 14 => u' = .bool false | 15 => u' = .bool false | 16 => u' = .bool false | 17 => u' = .bool false | 18 => u' = .bool true | 19 => u' = .bool true | 20 => u' = .agg #[.string ⟨#[]⟩, .string ⟨#[]⟩, .slice none 0 0] | 21 => ∃ b9, u' = .slice (some ⟨b9, 0, none⟩) 1 1 ∧ Blk W b9 27 [.string ⟨#[]⟩, .string ⟨#[]⟩, .slice none 0 0] | 22 => u' = .agg #[.string ⟨#[]⟩, .string ⟨#[]⟩, .slice none 0 0] | 23 => ∃ b8, u' = .slice (some ⟨b8, 0, none⟩) 1 1 ∧ Blk W b8 27 [.string ⟨#[]⟩, .string ⟨#[]⟩, .slice none 0 0] | 24 => u' = .bool true | 25 => u' = .bool false | 26 => u' = .bool false | 27 => u' = .bool false | _ => True) (by kernel_rfl) (fun w => Below.refl _ _) (fun a b c h1 h2 => h1.trans (h2.mono h1.size)) (by kernel_rfl) (by kernel_rfl) ?hG ⟨?o0, ?o1, ?o2, ?o3, ?o4, ?o5, ?o6, ?o7, ?o8, ?o9, ?o10, ?o11, ?o12, ?o13, ?o14, ?o15, ?o16, ?o17, ?o18, ?o19, ?o20, ?o21, ?o22, ?o23, ?o24, ?o25, ?o26, ?o27, trivial⟩ ?hend
              case o0 =>
                intro a w hfr hG hd
                refine ⟨fun hw => ?_, fun hw => absurd hw (by simp [Region.wanted])⟩
                have s17 : a.tmps.getD 17 undef = .bool false := hfr.at 17 (by kernel_rfl)
                refine op_yields (.bool false) ?_ ?_ ?_
                · simp only [execOp, resolve, List.map_toArray, List.map_cons, List.map_nil, Act.eval, s17]; simp [go_sem, -Array.getD_eq_getD_getElem?, s17]
                · exact Below.refl _ _
                · exact (fun _ _ => rfl)
              case o1 =>
                intro a w hfr hG hd
                refine ⟨fun hw => ?_, fun hw => absurd hw (by simp [Region.wanted])⟩
                have s7 : a.tmps.getD 7 undef = .slice A7 0 c7 := hfr.at 7 (by kernel_rfl)
                refine op_yields (.slice A7 0 c7) ?_ ?_ ?_
                · simp only [execOp, resolve, List.map_toArray, List.map_cons, List.map_nil, Act.eval, s7]; simp [go_sem, -Array.getD_eq_getD_getElem?, s7]
                · exact Below.refl _ _
                · exact (fun _ _ => rfl)
              case o2 =>
                intro a w hfr hG hd
                obtain ⟨d0, _⟩ := hd
                refine ⟨fun hw => ?_, fun hw => absurd hw (by simp [Region.wanted])⟩
                have s107 : a.tmps.getD 107 undef = .slice A7 0 c7 := (d0 rfl).now
                refine op_yields (.int .i64 0) ?_ ?_ ?_
                · simp only [execOp, resolve, List.map_toArray, List.map_cons, List.map_nil, Act.eval, s107]; simp [go_sem, -Array.getD_eq_getD_getElem?, s107]
                · exact Below.refl _ _
                · exact (fun _ _ => rfl)
              case o3 =>
                intro a w hfr hG hd
                obtain ⟨d0, _⟩ := hd
                refine ⟨fun hw => ?_, fun hw => absurd hw (by simp [Region.wanted])⟩
                have s108 : a.tmps.getD 108 undef = .int .i64 0 := (d0 rfl).now
                refine op_yields (.bool false) ?_ ?_ ?_
                · simp only [execOp, resolve, List.map_toArray, List.map_cons, List.map_nil, Act.eval, s108]; simp [go_sem, -Array.getD_eq_getD_getElem?, s108]
                · exact Below.refl _ _
                · exact (fun _ _ => rfl)
              case o4 =>
                intro a w hfr hG hd
                obtain ⟨d0, d1, _⟩ := hd
                refine ⟨fun hw => ?_, fun hw => absurd hw (by simp [Region.wanted])⟩
                have s106 : a.tmps.getD 106 undef = .bool false := (d0 rfl).now
                have s109 : a.tmps.getD 109 undef = .bool false := (d1 rfl).now
                refine op_yields (.bool false) ?_ ?_ ?_
                · simp only [execOp, resolve, List.map_toArray, List.map_cons, List.map_nil, Act.eval, s106, s109]; simp [go_sem, -Array.getD_eq_getD_getElem?, s106, s109]
                · exact Below.refl _ _
                · exact (fun _ _ => rfl)
              case o5 =>
                intro a w hfr hG hd
                obtain ⟨d0, _⟩ := hd
                refine ⟨fun hw => ?_, fun hw => absurd hw (by simp [Region.wanted])⟩
                have s110 : a.tmps.getD 110 undef = .bool false := (d0 rfl).now
                refine op_yields (.bool false) ?_ ?_ ?_
                · simp only [execOp, resolve, List.map_toArray, List.map_cons, List.map_nil, Act.eval, s110]; simp [go_sem, -Array.getD_eq_getD_getElem?, s110]
                · exact Below.refl _ _
                · exact (fun _ _ => rfl)
              case o6 =>
                intro a w hfr hG hd
                obtain ⟨d0, _⟩ := hd
                have sg : a.tmps.getD 111 undef = .bool false := (d0 rfl).now
                refine ⟨fun hw => ?_, fun hw => by rw [wanted_of rfl (yielded_of rfl sg)] at hw; exact absurd hw (by decide)⟩
                have s17 : a.tmps.getD 17 undef = .bool false := hfr.at 17 (by kernel_rfl)
                refine op_yields (.bool false) ?_ ?_ ?_
                · simp only [execOp, resolve, List.map_toArray, List.map_cons, List.map_nil, Act.eval, s17]; simp [go_sem, -Array.getD_eq_getD_getElem?, s17]
                · exact Below.refl _ _
                · exact (fun _ _ => rfl)
              case o7 =>
                intro a w hfr hG hd
                obtain ⟨d0, d1, d2, _⟩ := hd
                have sg : a.tmps.getD 111 undef = .bool false := (d1 rfl).now
                refine ⟨fun hw => ?_, fun hw => by rw [wanted_of rfl (yielded_of rfl sg)] at hw; exact absurd hw (by decide)⟩
                have s112 : a.tmps.getD 112 undef = .bool false := (d0 rfl).now
                refine op_yields (.bool false) ?_ ?_ ?_
                · simp only [execOp, resolve, List.map_toArray, List.map_cons, List.map_nil, Act.eval, s112]; simp [go_sem, -Array.getD_eq_getD_getElem?, s112]
                · exact Below.refl _ _
                · exact (fun _ _ => rfl)
              case o8 =>
                intro a w hfr hG hd
                obtain ⟨d0, _⟩ := hd
                have sg : a.tmps.getD 113 undef = .bool false := (d0 rfl).now
                refine ⟨fun hw => ?_, fun hw => fun _ _ => trivial⟩
                rw [wanted_of rfl (yielded_of rfl sg)] at hw; exact absurd hw (by decide)
              case o9 =>
                intro a w hfr hG hd
                obtain ⟨d0, d1, _⟩ := hd
                have sg : a.tmps.getD 113 undef = .bool false := (d1 rfl).now
                refine ⟨fun hw => ?_, fun hw => fun _ _ => trivial⟩
                rw [wanted_of rfl (yielded_of rfl sg)] at hw; exact absurd hw (by decide)
              case o10 =>
                intro a w hfr hG hd
                obtain ⟨d0, _⟩ := hd
                have sg : a.tmps.getD 113 undef = .bool false := (d0 rfl).now
                refine ⟨fun hw => ?_, fun hw => fun _ _ => trivial⟩
                rw [wanted_of rfl (yielded_of rfl sg)] at hw; exact absurd hw (by decide)
              case o11 =>
                intro a w hfr hG hd
                obtain ⟨d0, d1, _⟩ := hd
                have sg : a.tmps.getD 113 undef = .bool false := (d1 rfl).now
                refine ⟨fun hw => ?_, fun hw => fun _ _ => trivial⟩
                rw [wanted_of rfl (yielded_of rfl sg)] at hw; exact absurd hw (by decide)
              case o12 =>
                intro a w hfr hG hd
                obtain ⟨d0, d1, d2, d3, _⟩ := hd
                have sg : a.tmps.getD 113 undef = .bool false := (d2 rfl).now
                refine ⟨fun hw => ?_, fun hw => fun _ _ => trivial⟩
                rw [wanted_of rfl (yielded_of rfl sg)] at hw; exact absurd hw (by decide)
              case o13 =>
                intro a w hfr hG hd
                obtain ⟨d0, d1, _⟩ := hd
                have sg : a.tmps.getD 113 undef = .bool false := (d1 rfl).now
                refine ⟨fun hw => ?_, fun hw => fun _ _ => trivial⟩
                rw [wanted_of rfl (yielded_of rfl sg)] at hw; exact absurd hw (by decide)
              case o14 =>
                intro a w hfr hG hd
                obtain ⟨d0, d1, d2, _⟩ := hd
                have sg : a.tmps.getD 111 undef = .bool false := (d2 rfl).now
                refine ⟨fun hw => ?_, fun hw => by rw [wanted_of rfl (yielded_of rfl sg)] at hw; exact absurd hw (by decide)⟩
                have s113 : a.tmps.getD 113 undef = .bool false := (d0 rfl).now
                refine op_yields (.bool false) ?_ ?_ ?_
                · simp only [execOp, resolve, List.map_toArray, List.map_cons, List.map_nil, Act.eval, s113]; simp [go_sem, -Array.getD_eq_getD_getElem?, s113]
                · exact Below.refl _ _
                · exact (fun _ _ => rfl)
              case o15 =>
                intro a w hfr hG hd
                obtain ⟨d0, d1, _⟩ := hd
                refine ⟨fun hw => ?_, fun hw => absurd hw (by simp [Region.wanted])⟩
                have s111 : a.tmps.getD 111 undef = .bool false := (d0 rfl).now
                have s120 : a.tmps.getD 120 undef = .bool false := (d1 rfl).now
                refine op_yields (.bool false) ?_ ?_ ?_
                · simp only [execOp, resolve, List.map_toArray, List.map_cons, List.map_nil, Act.eval, s111, s120]; simp [go_sem, -Array.getD_eq_getD_getElem?, s111, s120]
                · exact Below.refl _ _
                · exact (fun _ _ => rfl)
              case o16 =>
                intro a w hfr hG hd
                obtain ⟨d0, d1, _⟩ := hd
                refine ⟨fun hw => ?_, fun hw => absurd hw (by simp [Region.wanted])⟩
                have s121 : a.tmps.getD 121 undef = .bool false := (d0 rfl).now
                refine op_yields (.bool false) ?_ ?_ ?_
                · simp only [execOp, resolve, List.map_toArray, List.map_cons, List.map_nil, Act.eval, s121]; simp [go_sem, -Array.getD_eq_getD_getElem?, s121]
                · exact Below.refl _ _
                · exact (fun _ _ => rfl)
              case o17 =>
                intro a w hfr hG hd
                obtain ⟨d0, _⟩ := hd
                have sg : a.tmps.getD 122 undef = .bool false := (d0 rfl).now
                refine ⟨fun hw => ?_, fun hw => by rw [wanted_of rfl (yielded_of rfl sg)] at hw; exact absurd hw (by decide)⟩
                have s17 : a.tmps.getD 17 undef = .bool false := hfr.at 17 (by kernel_rfl)
                refine op_yields (.bool false) ?_ ?_ ?_
                · simp only [execOp, resolve, List.map_toArray, List.map_cons, List.map_nil, Act.eval, s17]; simp [go_sem, -Array.getD_eq_getD_getElem?, s17]
                · exact Below.refl _ _
                · exact (fun _ _ => rfl)
              case o18 =>
                intro a w hfr hG hd
                obtain ⟨d0, d1, _⟩ := hd
                have sg : a.tmps.getD 122 undef = .bool false := (d1 rfl).now
                refine ⟨fun hw => ?_, fun hw => by rw [wanted_of rfl (yielded_of rfl sg)] at hw; exact absurd hw (by decide)⟩
                have s123 : a.tmps.getD 123 undef = .bool false := (d0 rfl).now
                refine op_yields (.bool true) ?_ ?_ ?_
                · simp only [execOp, resolve, List.map_toArray, List.map_cons, List.map_nil, Act.eval, s123]; simp [go_sem, -Array.getD_eq_getD_getElem?, s123]
                · exact Below.refl _ _
                · exact (fun _ _ => rfl)
              case o19 =>
                intro a w hfr hG hd
                obtain ⟨d0, d1, d2, _⟩ := hd
                have sg : a.tmps.getD 122 undef = .bool false := (d1 rfl).now
                refine ⟨fun hw => ?_, fun hw => by rw [wanted_of rfl (yielded_of rfl sg)] at hw; exact absurd hw (by decide)⟩
                have s124 : a.tmps.getD 124 undef = .bool true := (d0 rfl).now
                refine op_yields (.bool true) ?_ ?_ ?_
                · simp only [execOp, resolve, List.map_toArray, List.map_cons, List.map_nil, Act.eval, s124]; simp [go_sem, -Array.getD_eq_getD_getElem?, s124]
                · exact Below.refl _ _
                · exact (fun _ _ => rfl)
              case o20 =>
                intro a w hfr hG hd
                obtain ⟨d0, _⟩ := hd
                have sg : a.tmps.getD 125 undef = .bool true := (d0 rfl).now
                refine ⟨fun hw => ?_, fun hw => by rw [wanted_of rfl (yielded_of rfl sg)] at hw; exact absurd hw (by decide)⟩
                have s16 : a.tmps.getD 16 undef = .pointer (some ⟨K16, 0, none⟩) := hfr.at 16 (by kernel_rfl)
                obtain ⟨e0, e1, e2⟩ := box3 hG.now.2.2
                refine op_yields (.agg #[.string ⟨#[]⟩, .string ⟨#[]⟩, .slice none 0 0]) ?_ ?_ ?_
                · simp only [execOp, resolve, List.map_toArray, List.map_cons, List.map_nil, Act.eval, s16]; simp [go_sem, -Array.getD_eq_getD_getElem?, s16, e0, e1, e2]
                · exact Below.refl _ _
                · exact (fun _ _ => rfl)
              case o21 =>
                intro a w hfr hG hd
                obtain ⟨d0, d1, _⟩ := hd
                have sg : a.tmps.getD 125 undef = .bool true := (d1 rfl).now
                refine ⟨fun hw => ?_, fun hw => by rw [wanted_of rfl (yielded_of rfl sg)] at hw; exact absurd hw (by decide)⟩
                have s126 : a.tmps.getD 126 undef = .agg #[.string ⟨#[]⟩, .string ⟨#[]⟩, .slice none 0 0] := (d0 rfl).now
                refine op_makes (.slice (some ⟨w.heap.size, 0, none⟩) 1 1) (w' := w.alloc (.cells #[.string ⟨#[]⟩, .string ⟨#[]⟩, .slice none 0 0] 27)) ?_ ?_ ?_
                · simp only [execOp, resolve, List.map_toArray, List.map_cons, List.map_nil, Act.eval, s126]; simp [go_sem, -Array.getD_eq_getD_getElem?, s126]
                · exact (Below.refl _ _).alloc (Nat.le_refl _) _
                · exact fun W' hW' => ⟨_, rfl, (Blk.mk (heap_alloc_new _ _) : Blk _ _ _ _).below hW' (by simp)⟩
              case o22 =>
                intro a w hfr hG hd
                obtain ⟨d0, _⟩ := hd
                have sg : a.tmps.getD 125 undef = .bool true := (d0 rfl).now
                refine ⟨fun hw => ?_, fun hw => by rw [wanted_of rfl (yielded_of rfl sg)] at hw; exact absurd hw (by decide)⟩
                refine op_yields (.agg #[.string ⟨#[]⟩, .string ⟨#[]⟩, .slice none 0 0]) ?_ ?_ ?_
                · kernel_rfl
                · exact Below.refl _ _
                · exact (fun _ _ => rfl)
              case o23 =>
                intro a w hfr hG hd
                obtain ⟨d0, d1, _⟩ := hd
                have sg : a.tmps.getD 125 undef = .bool true := (d1 rfl).now
                refine ⟨fun hw => ?_, fun hw => by rw [wanted_of rfl (yielded_of rfl sg)] at hw; exact absurd hw (by decide)⟩
                have s128 : a.tmps.getD 128 undef = .agg #[.string ⟨#[]⟩, .string ⟨#[]⟩, .slice none 0 0] := (d0 rfl).now
                refine op_makes (.slice (some ⟨w.heap.size, 0, none⟩) 1 1) (w' := w.alloc (.cells #[.string ⟨#[]⟩, .string ⟨#[]⟩, .slice none 0 0] 27)) ?_ ?_ ?_
                · simp only [execOp, resolve, List.map_toArray, List.map_cons, List.map_nil, Act.eval, s128]; simp [go_sem, -Array.getD_eq_getD_getElem?, s128]
                · exact (Below.refl _ _).alloc (Nat.le_refl _) _
                · exact fun W' hW' => ⟨_, rfl, (Blk.mk (heap_alloc_new _ _) : Blk _ _ _ _).below hW' (by simp)⟩
              case o24 =>
                intro a w hfr hG hd
                obtain ⟨d0, d1, d2, d3, _⟩ := hd
                have sg : a.tmps.getD 125 undef = .bool true := (d2 rfl).now
                refine ⟨fun hw => ?_, fun hw => by rw [wanted_of rfl (yielded_of rfl sg)] at hw; exact absurd hw (by decide)⟩
                obtain ⟨b9, s127, _⟩ := (d0 rfl).now
                have f127 : Hold (fun a b => Below a.heap.size a b) (fun W => Blk W b9 27 [.string ⟨#[]⟩, .string ⟨#[]⟩, .slice none 0 0]) w := fun w2 h2 => by obtain ⟨_, e1, e2⟩ := d0 rfl w2 h2; have e3 := s127.symm.trans e1; simp only [Value.slice.injEq, Option.some.injEq, Addr.mk.injEq, Value.pointer.injEq, and_true, true_and] at e3; subst e3; exact e2
                have s127 : a.tmps.getD 127 undef = .slice (some ⟨b9, 0, none⟩) 1 1 := s127
                obtain ⟨b8, s129, _⟩ := (d1 rfl).now
                have f129 : Hold (fun a b => Below a.heap.size a b) (fun W => Blk W b8 27 [.string ⟨#[]⟩, .string ⟨#[]⟩, .slice none 0 0]) w := fun w2 h2 => by obtain ⟨_, e1, e2⟩ := d1 rfl w2 h2; have e3 := s129.symm.trans e1; simp only [Value.slice.injEq, Option.some.injEq, Addr.mk.injEq, Value.pointer.injEq, and_true, true_and] at e3; subst e3; exact e2
                have s129 : a.tmps.getD 129 undef = .slice (some ⟨b8, 0, none⟩) 1 1 := s129
                refine op_calls2 ((HNT.out w b9 b8 f127.now f129.now).mono fun e' w' hh => ⟨_, hh.1, hh.2, (fun _ _ => rfl)⟩) ?_
                simp only [execOp, resolve, List.map_toArray, List.map_cons, List.map_nil, Act.eval, s127, s129]; simp [go_sem, -Array.getD_eq_getD_getElem?, s127, s129]
              case o25 =>
                intro a w hfr hG hd
                obtain ⟨d0, d1, _⟩ := hd
                have sg : a.tmps.getD 125 undef = .bool true := (d1 rfl).now
                refine ⟨fun hw => ?_, fun hw => by rw [wanted_of rfl (yielded_of rfl sg)] at hw; exact absurd hw (by decide)⟩
                have s130 : a.tmps.getD 130 undef = .bool true := (d0 rfl).now
                refine op_yields (.bool false) ?_ ?_ ?_
                · simp only [execOp, resolve, List.map_toArray, List.map_cons, List.map_nil, Act.eval, s130]; simp [go_sem, -Array.getD_eq_getD_getElem?, s130]
                · exact Below.refl _ _
                · exact (fun _ _ => rfl)
              case o26 =>
                intro a w hfr hG hd
                obtain ⟨d0, d1, d2, _⟩ := hd
                have sg : a.tmps.getD 122 undef = .bool false := (d2 rfl).now
                refine ⟨fun hw => ?_, fun hw => by rw [wanted_of rfl (yielded_of rfl sg)] at hw; exact absurd hw (by decide)⟩
                have s125 : a.tmps.getD 125 undef = .bool true := (d0 rfl).now
                have s131 : a.tmps.getD 131 undef = .bool false := (d1 rfl).now
                refine op_yields (.bool false) ?_ ?_ ?_
                · simp only [execOp, resolve, List.map_toArray, List.map_cons, List.map_nil, Act.eval, s125, s131]; simp [go_sem, -Array.getD_eq_getD_getElem?, s125, s131]
                · exact Below.refl _ _
                · exact (fun _ _ => rfl)
              case o27 =>
                intro a w hfr hG hd
                obtain ⟨d0, d1, _⟩ := hd
                refine ⟨fun hw => ?_, fun hw => absurd hw (by simp [Region.wanted])⟩
                have s122 : a.tmps.getD 122 undef = .bool false := (d0 rfl).now
                have s132 : a.tmps.getD 132 undef = .bool false := (d1 rfl).now
                refine op_yields (.bool false) ?_ ?_ ?_
                · simp only [execOp, resolve, List.map_toArray, List.map_cons, List.map_nil, Act.eval, s122, s132]; simp [go_sem, -Array.getD_eq_getD_getElem?, s122, s132]
                · exact Below.refl _ _
                · exact (fun _ _ => rfl)
              case hG => exact fun w' hb => ⟨(HP5.out.below (Below.refl _ _).drew).below hb, (HB5.out.below (Below.refl _ _).drew).below hb, HK5.out.drew1.below hb HK5.out.lt⟩
              case hend =>
                intro vs w' hG hv
                obtain ⟨_, _, _, _, _, _, _, _, _, _, _, _, _, _, _, _, _, _, _, _, _, _, _, _, _, _, _, h27, _⟩ := hv
                have e27 : vs 27 = .bool false := h27.now
                have HU := Lib.hid hG.now
                clear hG h27
                simp only [putAll, Act.put, e27]
                go_wp2_with fail
                go_meet
                exact ⟨rfl, HU.out.1, HU.out.2.1⟩
            case rest => as_aux_lemma =>
              obtain ⟨rfl, hp, hb⟩ := hcut
              have HP2 := Lib.hid hp; have HB2 := Lib.hid hb
              clear hp hb HP5 HB5 HK5
              have hln : ([] : List NV).length = ([] : List NV).length := rfl
              have HCN := Lib.hid (blen_any b c r _ ([] : List NV) _ HB2.out); have HCD := Lib.hid (bdropped_any b c r _ ([] : List NV) _ HB2.out)
              have hosr : ([] : List NV).length ≤ 8 := by simp
              have j1 : IntKind.i64.wrap (((tk : Nat) : Int) + ((d : Nat) : Int)) = ((tk : Nat) : Int) + ((d : Nat) : Int) := IntWalk.i64_in _ (by have := HNX.out; omega)
              have j3 : ((((nx : Nat) : Int)) != ((tk : Nat) : Int) + ((d : Nat) : Int)) = false := by rw [show (((nx : Nat) : Int)) = ((tk : Nat) : Int) + ((d : Nat) : Int) by have := HNX.out; simp only [List.length_nil] at this; omega]; simp
              clear hln
              go_wp2_with fail
              (with_reducible refine HCN.out.mono ?_); rintro e wq ⟨rfl, rfl⟩
              go_wp2_with fail
              (with_reducible refine HCD.out.mono ?_); rintro e wq ⟨rfl, rfl⟩
              go_wp2_with fail
              go_roundg gout
              case measure => omega
              case rel => exact ⟨i + 1, d, nx, tk, ([] : List NV), ([] : List NV), by omega, by go_num, rfl, rfl, rfl, HP2.out, HB2.out, rfl, by simp, HNX.out, by omega, HAL.out⟩
          | cons x os =>
            obtain ⟨os1, hos1⟩ : ∃ z, x :: os = z := ⟨_, rfl⟩
            rw [hos1] at HP HKY HAL HNX hos
            cases l with
            | nil => rw [← hos1] at HKY; exact absurd HKY.out (by simp)
            | cons y l =>
              obtain ⟨A7, c7, hv7, hs7, ht7, hc7, hd7⟩ := HP.out.slc
              obtain ⟨N, hN⟩ : ∃ N, os1.length = N := ⟨_, rfl⟩
              rw [hN] at hv7
              have HNN := Lib.hid hN
              have hN1 : 1 ≤ N := by rw [← hN, ← hos1]; simp
              rw [hN] at hc7
              subst hv7
              have HT := Lib.hid (Take_yes b c r d y l _ HB.out)
              have hkxy : y.key = x.key := by have := HKY.out; rw [← hos1] at this; simp only [List.map_cons, List.cons.injEq] at this; exact this.1
              have HK2 := Lib.hid (show l.map NV.key = os.map NV.key by have := HKY.out; rw [← hos1] at this; simp only [List.map_cons, List.cons.injEq] at this; exact this.2)
              have HKX := Lib.hid hkxy
              have HXM := Lib.hid (show x ∈ os1 by rw [← hos1]; exact List.mem_cons_self)
              have HOS := Lib.hid hos1
              clear hN hos1 hkxy hs7 ht7
              go_wp2_with fail
              (with_reducible refine HT.out.mono ?_); rintro e w5 ⟨rfl, hb5, hy5, hm5⟩
              have HB5 := Lib.hid (hb5.alloc (.cells #[.string y.dst, .string y.group, .slice y.A y.al.length y.c] 27)); have HP5 := Lib.hid ((HP.out.mwr HB.out.bc hm5 hgb hgc).alloc (.cells #[.string y.dst, .string y.group, .slice y.A y.al.length y.c] 27))
              have HY5 := Lib.hid (hy5.below ((Below.refl _ _).alloc (Nat.le_refl _) (.cells #[.string y.dst, .string y.group, .slice y.A y.al.length y.c] 27)))
              have HK5 := Lib.hid (Blk.mk (heap_alloc_new w5 (.cells #[.string y.dst, .string y.group, .slice y.A y.al.length y.c] 27)) : Blk _ _ 27 [.string y.dst, .string y.group, .slice y.A y.al.length y.c])
              clear hb5 hy5 hm5 HT HB HP
              unfold NV.val
              go_upto_region 29 with fail
              obtain ⟨W, hW⟩ : ∃ W, w5.alloc (.cells #[.string y.dst, .string y.group, .slice y.A y.al.length y.c] 27) = W := ⟨_, rfl⟩
              rw [hW] at HB5 HP5 HK5 HY5
              rw [hW]
              clear hW
              generalize w5.heap.size = K16 at *
              have HAY := Lib.hid (show y.al.length ≤ 1 by
                have h1 := HAL.out x HXM.out
                have h2 : y.al = x.al := congrArg (fun k => k.2.2) HKX.out
                rw [h2]; exact h1)
              have HNT := Lib.hid (show ∀ (W : World) (b9 : Nat), PlAt w (.slice A7 N c7) os1 W → NOk W y → Blk W b9 27 [.string y.dst, .string y.group, .slice y.A y.al.length y.c] →
                  Calls Try.prog 14 #[.slice (some ⟨b9, 0, none⟩) 1 1, .slice A7 1 c7] W fun e w' => e = .returned (.bool true) ∧ Below W.heap.size W w' from fun W b9 h1 h2 h3 => by
                obtain ⟨A', c', hv, hs, _⟩ := h1.slc
                injection hv with hv1 hv2 hv3
                subst hv1; subst hv3
                have hs1 := hs.take (k := 1) (by have := HNN.out; omega)
                rw [ncells_take, ← HOS.out] at hs1
                refine (notes_same _ _ 1 1 1 c7 _ _ [y] [x] W (Blk.sees h3 rfl (List.prefix_refl _)) hs1 (fun v hv => by rw [List.mem_singleton.1 hv]; exact h2) (fun v hv => by rw [List.mem_singleton.1 hv]; exact h1.ok x HXM.out) (by simp [HKX.out]) (by omega) (fun v hv => by rw [List.mem_singleton.1 hv]; have := HAY.out; omega)).mono ?_
                rintro e w' ⟨rfl, m, rfl⟩
                exact ⟨rfl, belowD (Below.refl _ _) m⟩)
              have y0 : 0 < N := by omega
              have y1 : (0 : Int) < (N : Nat) := by omega
              have y3 : (1 : Int) ≤ (N : Nat) := by omega
              have y4 : 1 ≤ c7 := by omega
              have y2 : (1 : Int) ≤ (c7 : Nat) := by omega
              go_cut [133] (fun x133 wx => x133 = .bool false ∧ PlAt w (.slice A7 N c7) os1 wx ∧ BAt b c r d l wx)
              case first =>
                refine wp_region_facts (R := fun a b => Below a.heap.size a b) (G := (fun W => PlAt w (.slice A7 N c7) os1 W ∧ BAt b c r d l W ∧ Blk W K16 27 [.string y.dst, .string y.group, .slice y.A y.al.length y.c] ∧ NOk W y)) (V := fun i' u' W => match i' with | 0 => u' = .bool true | 1 => u' = .slice A7 N c7 | 2 => u' = .int .i64 N | 3 => u' = .bool true | 4 => u' = .bool false | 5 => u' = .bool false | 6 => u' = .bool true | 7 => u' = .bool true | 8 => u' = .agg #[.string y.dst, .string y.group, .slice y.A y.al.length y.c] | 9 => ∃ b9, u' = .slice (some ⟨b9, 0, none⟩) 1 1 ∧ Blk W b9 27 [.string y.dst, .string y.group, .slice y.A y.al.length y.c] | 10 => u' = .slice A7 N c7 | 11 => u' = .slice A7 1 c7 | 12 => u' = .bool true | 13 => u' = .bool false | 14 => u' = .bool false | 15 => u' = .bool false | 16 => u' = .bool false | 17 => u' = .bool true | 18 => u' = .bool false | 19 => u' = .bool false | 20 => True | 21 => True | 22 => True | 23 => True | 24 => True | 25 => True | 26 => u' = .bool false | 27 => u' = .bool false | _ => True) (by kernel_rfl) (fun w => Below.refl _ _) (fun a b c h1 h2 => h1.trans (h2.mono h1.size)) (by kernel_rfl) (by kernel_rfl) ?hG ⟨?o0, ?o1, ?o2, ?o3, ?o4, ?o5, ?o6, ?o7, ?o8, ?o9, ?o10, ?o11, ?o12, ?o13, ?o14, ?o15, ?o16, ?o17, ?o18, ?o19, ?o20, ?o21, ?o22, ?o23, ?o24, ?o25, ?o26, ?o27, trivial⟩ ?hend
                case o0 =>
                  intro a w hfr hG hd
                  refine ⟨fun hw => ?_, fun hw => absurd hw (by simp [Region.wanted])⟩
                  have s17 : a.tmps.getD 17 undef = .bool true := hfr.at 17 (by kernel_rfl)
                  refine op_yields (.bool true) ?_ ?_ ?_
                  · simp only [execOp, resolve, List.map_toArray, List.map_cons, List.map_nil, Act.eval, s17]; simp [go_sem, -Array.getD_eq_getD_getElem?, s17]
                  · exact Below.refl _ _
                  · exact (fun _ _ => rfl)
                case o1 =>
                  intro a w hfr hG hd
                  refine ⟨fun hw => ?_, fun hw => absurd hw (by simp [Region.wanted])⟩
                  have s7 : a.tmps.getD 7 undef = .slice A7 N c7 := hfr.at 7 (by kernel_rfl)
                  refine op_yields (.slice A7 N c7) ?_ ?_ ?_
                  · simp only [execOp, resolve, List.map_toArray, List.map_cons, List.map_nil, Act.eval, s7]; simp [go_sem, -Array.getD_eq_getD_getElem?, s7]
                  · exact Below.refl _ _
                  · exact (fun _ _ => rfl)
                case o2 =>
                  intro a w hfr hG hd
                  obtain ⟨d0, _⟩ := hd
                  refine ⟨fun hw => ?_, fun hw => absurd hw (by simp [Region.wanted])⟩
                  have s107 : a.tmps.getD 107 undef = .slice A7 N c7 := (d0 rfl).now
                  refine op_yields (.int .i64 N) ?_ ?_ ?_
                  · simp only [execOp, resolve, List.map_toArray, List.map_cons, List.map_nil, Act.eval, s107]; simp [go_sem, -Array.getD_eq_getD_getElem?, s107]
                  · exact Below.refl _ _
                  · exact (fun _ _ => rfl)
                case o3 =>
                  intro a w hfr hG hd
                  obtain ⟨d0, _⟩ := hd
                  refine ⟨fun hw => ?_, fun hw => absurd hw (by simp [Region.wanted])⟩
                  have s108 : a.tmps.getD 108 undef = .int .i64 N := (d0 rfl).now
                  refine op_yields (.bool true) ?_ ?_ ?_
                  · simp only [execOp, resolve, List.map_toArray, List.map_cons, List.map_nil, Act.eval, s108]; simp [go_sem, -Array.getD_eq_getD_getElem?, s108, y1, y0]
                  · exact Below.refl _ _
                  · exact (fun _ _ => rfl)
                case o4 =>
                  intro a w hfr hG hd
                  obtain ⟨d0, d1, _⟩ := hd
                  refine ⟨fun hw => ?_, fun hw => absurd hw (by simp [Region.wanted])⟩
                  have s106 : a.tmps.getD 106 undef = .bool true := (d0 rfl).now
                  have s109 : a.tmps.getD 109 undef = .bool true := (d1 rfl).now
                  refine op_yields (.bool false) ?_ ?_ ?_
                  · simp only [execOp, resolve, List.map_toArray, List.map_cons, List.map_nil, Act.eval, s106, s109]; simp [go_sem, -Array.getD_eq_getD_getElem?, s106, s109]
                  · exact Below.refl _ _
                  · exact (fun _ _ => rfl)
                case o5 =>
                  intro a w hfr hG hd
                  obtain ⟨d0, _⟩ := hd
                  refine ⟨fun hw => ?_, fun hw => absurd hw (by simp [Region.wanted])⟩
                  have s110 : a.tmps.getD 110 undef = .bool false := (d0 rfl).now
                  refine op_yields (.bool false) ?_ ?_ ?_
                  · simp only [execOp, resolve, List.map_toArray, List.map_cons, List.map_nil, Act.eval, s110]; simp [go_sem, -Array.getD_eq_getD_getElem?, s110]
                  · exact Below.refl _ _
                  · exact (fun _ _ => rfl)
                case o6 =>
                  intro a w hfr hG hd
                  obtain ⟨d0, _⟩ := hd
                  have sg : a.tmps.getD 111 undef = .bool false := (d0 rfl).now
                  refine ⟨fun hw => ?_, fun hw => by rw [wanted_of rfl (yielded_of rfl sg)] at hw; exact absurd hw (by decide)⟩
                  have s17 : a.tmps.getD 17 undef = .bool true := hfr.at 17 (by kernel_rfl)
                  refine op_yields (.bool true) ?_ ?_ ?_
                  · simp only [execOp, resolve, List.map_toArray, List.map_cons, List.map_nil, Act.eval, s17]; simp [go_sem, -Array.getD_eq_getD_getElem?, s17]
                  · exact Below.refl _ _
                  · exact (fun _ _ => rfl)
                case o7 =>
                  intro a w hfr hG hd
                  obtain ⟨d0, d1, d2, _⟩ := hd
                  have sg : a.tmps.getD 111 undef = .bool false := (d1 rfl).now
                  refine ⟨fun hw => ?_, fun hw => by rw [wanted_of rfl (yielded_of rfl sg)] at hw; exact absurd hw (by decide)⟩
                  have s112 : a.tmps.getD 112 undef = .bool true := (d0 rfl).now
                  refine op_yields (.bool true) ?_ ?_ ?_
                  · simp only [execOp, resolve, List.map_toArray, List.map_cons, List.map_nil, Act.eval, s112]; simp [go_sem, -Array.getD_eq_getD_getElem?, s112]
                  · exact Below.refl _ _
                  · exact (fun _ _ => rfl)
                case o8 =>
                  intro a w hfr hG hd
                  obtain ⟨d0, _⟩ := hd
                  have sg : a.tmps.getD 113 undef = .bool true := (d0 rfl).now
                  refine ⟨fun hw => ?_, fun hw => by rw [wanted_of rfl (yielded_of rfl sg)] at hw; exact absurd hw (by decide)⟩
                  have s16 : a.tmps.getD 16 undef = .pointer (some ⟨K16, 0, none⟩) := hfr.at 16 (by kernel_rfl)
                  obtain ⟨e0, e1, e2⟩ := box3 hG.now.2.2.1
                  refine op_yields (.agg #[.string y.dst, .string y.group, .slice y.A y.al.length y.c]) ?_ ?_ ?_
                  · simp only [execOp, resolve, List.map_toArray, List.map_cons, List.map_nil, Act.eval, s16]; simp [go_sem, -Array.getD_eq_getD_getElem?, s16, e0, e1, e2]
                  · exact Below.refl _ _
                  · exact (fun _ _ => rfl)
                case o9 =>
                  intro a w hfr hG hd
                  obtain ⟨d0, d1, _⟩ := hd
                  have sg : a.tmps.getD 113 undef = .bool true := (d1 rfl).now
                  refine ⟨fun hw => ?_, fun hw => by rw [wanted_of rfl (yielded_of rfl sg)] at hw; exact absurd hw (by decide)⟩
                  have s114 : a.tmps.getD 114 undef = .agg #[.string y.dst, .string y.group, .slice y.A y.al.length y.c] := (d0 rfl).now
                  refine op_makes (.slice (some ⟨w.heap.size, 0, none⟩) 1 1) (w' := w.alloc (.cells #[.string y.dst, .string y.group, .slice y.A y.al.length y.c] 27)) ?_ ?_ ?_
                  · simp only [execOp, resolve, List.map_toArray, List.map_cons, List.map_nil, Act.eval, s114]; simp [go_sem, -Array.getD_eq_getD_getElem?, s114]
                  · exact (Below.refl _ _).alloc (Nat.le_refl _) _
                  · exact fun W' hW' => ⟨_, rfl, (Blk.mk (heap_alloc_new _ _) : Blk _ _ _ _).below hW' (by simp)⟩
                case o10 =>
                  intro a w hfr hG hd
                  obtain ⟨d0, _⟩ := hd
                  have sg : a.tmps.getD 113 undef = .bool true := (d0 rfl).now
                  refine ⟨fun hw => ?_, fun hw => by rw [wanted_of rfl (yielded_of rfl sg)] at hw; exact absurd hw (by decide)⟩
                  have s7 : a.tmps.getD 7 undef = .slice A7 N c7 := hfr.at 7 (by kernel_rfl)
                  refine op_yields (.slice A7 N c7) ?_ ?_ ?_
                  · simp only [execOp, resolve, List.map_toArray, List.map_cons, List.map_nil, Act.eval, s7]; simp [go_sem, -Array.getD_eq_getD_getElem?, s7]
                  · exact Below.refl _ _
                  · exact (fun _ _ => rfl)
                case o11 =>
                  intro a w hfr hG hd
                  obtain ⟨d0, d1, _⟩ := hd
                  have sg : a.tmps.getD 113 undef = .bool true := (d1 rfl).now
                  refine ⟨fun hw => ?_, fun hw => by rw [wanted_of rfl (yielded_of rfl sg)] at hw; exact absurd hw (by decide)⟩
                  have s116 : a.tmps.getD 116 undef = .slice A7 N c7 := (d0 rfl).now
                  refine op_yields (.slice A7 1 c7) ?_ ?_ ?_
                  · simp only [execOp, resolve, List.map_toArray, List.map_cons, List.map_nil, Act.eval, s116]; simp [go_sem, -Array.getD_eq_getD_getElem?, s116, y2, y3, y4]
                  · exact Below.refl _ _
                  · exact (fun _ _ => rfl)
                case o12 =>
                  intro a w hfr hG hd
                  obtain ⟨d0, d1, d2, d3, _⟩ := hd
                  have sg : a.tmps.getD 113 undef = .bool true := (d2 rfl).now
                  refine ⟨fun hw => ?_, fun hw => by rw [wanted_of rfl (yielded_of rfl sg)] at hw; exact absurd hw (by decide)⟩
                  obtain ⟨b9, s115, _⟩ := (d0 rfl).now
                  have f115 : Hold (fun a b => Below a.heap.size a b) (fun W => Blk W b9 27 [.string y.dst, .string y.group, .slice y.A y.al.length y.c]) w := fun w2 h2 => by obtain ⟨_, e1, e2⟩ := d0 rfl w2 h2; have e3 := s115.symm.trans e1; simp only [Value.slice.injEq, Option.some.injEq, Addr.mk.injEq, Value.pointer.injEq, and_true, true_and] at e3; subst e3; exact e2
                  have s115 : a.tmps.getD 115 undef = .slice (some ⟨b9, 0, none⟩) 1 1 := s115
                  have s117 : a.tmps.getD 117 undef = .slice A7 1 c7 := (d1 rfl).now
                  refine op_calls2 ((HNT.out w b9 hG.now.1 hG.now.2.2.2 f115.now).mono fun e' w' hh => ⟨_, hh.1, hh.2, (fun _ _ => rfl)⟩) ?_
                  simp only [execOp, resolve, List.map_toArray, List.map_cons, List.map_nil, Act.eval, s115, s117]; simp [go_sem, -Array.getD_eq_getD_getElem?, s115, s117]
                case o13 =>
                  intro a w hfr hG hd
                  obtain ⟨d0, d1, _⟩ := hd
                  have sg : a.tmps.getD 113 undef = .bool true := (d1 rfl).now
                  refine ⟨fun hw => ?_, fun hw => by rw [wanted_of rfl (yielded_of rfl sg)] at hw; exact absurd hw (by decide)⟩
                  have s118 : a.tmps.getD 118 undef = .bool true := (d0 rfl).now
                  refine op_yields (.bool false) ?_ ?_ ?_
                  · simp only [execOp, resolve, List.map_toArray, List.map_cons, List.map_nil, Act.eval, s118]; simp [go_sem, -Array.getD_eq_getD_getElem?, s118]
                  · exact Below.refl _ _
                  · exact (fun _ _ => rfl)
                case o14 =>
                  intro a w hfr hG hd
                  obtain ⟨d0, d1, d2, _⟩ := hd
                  have sg : a.tmps.getD 111 undef = .bool false := (d2 rfl).now
                  refine ⟨fun hw => ?_, fun hw => by rw [wanted_of rfl (yielded_of rfl sg)] at hw; exact absurd hw (by decide)⟩
                  have s113 : a.tmps.getD 113 undef = .bool true := (d0 rfl).now
                  have s119 : a.tmps.getD 119 undef = .bool false := (d1 rfl).now
                  refine op_yields (.bool false) ?_ ?_ ?_
                  · simp only [execOp, resolve, List.map_toArray, List.map_cons, List.map_nil, Act.eval, s113, s119]; simp [go_sem, -Array.getD_eq_getD_getElem?, s113, s119]
                  · exact Below.refl _ _
                  · exact (fun _ _ => rfl)
                case o15 =>
                  intro a w hfr hG hd
                  obtain ⟨d0, d1, _⟩ := hd
                  refine ⟨fun hw => ?_, fun hw => absurd hw (by simp [Region.wanted])⟩
                  have s111 : a.tmps.getD 111 undef = .bool false := (d0 rfl).now
                  have s120 : a.tmps.getD 120 undef = .bool false := (d1 rfl).now
                  refine op_yields (.bool false) ?_ ?_ ?_
                  · simp only [execOp, resolve, List.map_toArray, List.map_cons, List.map_nil, Act.eval, s111, s120]; simp [go_sem, -Array.getD_eq_getD_getElem?, s111, s120]
                  · exact Below.refl _ _
                  · exact (fun _ _ => rfl)
                case o16 =>
                  intro a w hfr hG hd
                  obtain ⟨d0, d1, _⟩ := hd
                  refine ⟨fun hw => ?_, fun hw => absurd hw (by simp [Region.wanted])⟩
                  have s121 : a.tmps.getD 121 undef = .bool false := (d0 rfl).now
                  refine op_yields (.bool false) ?_ ?_ ?_
                  · simp only [execOp, resolve, List.map_toArray, List.map_cons, List.map_nil, Act.eval, s121]; simp [go_sem, -Array.getD_eq_getD_getElem?, s121]
                  · exact Below.refl _ _
                  · exact (fun _ _ => rfl)
                case o17 =>
                  intro a w hfr hG hd
                  obtain ⟨d0, _⟩ := hd
                  have sg : a.tmps.getD 122 undef = .bool false := (d0 rfl).now
                  refine ⟨fun hw => ?_, fun hw => by rw [wanted_of rfl (yielded_of rfl sg)] at hw; exact absurd hw (by decide)⟩
                  have s17 : a.tmps.getD 17 undef = .bool true := hfr.at 17 (by kernel_rfl)
                  refine op_yields (.bool true) ?_ ?_ ?_
                  · simp only [execOp, resolve, List.map_toArray, List.map_cons, List.map_nil, Act.eval, s17]; simp [go_sem, -Array.getD_eq_getD_getElem?, s17]
                  · exact Below.refl _ _
                  · exact (fun _ _ => rfl)
                case o18 =>
                  intro a w hfr hG hd
                  obtain ⟨d0, d1, _⟩ := hd
                  have sg : a.tmps.getD 122 undef = .bool false := (d1 rfl).now
                  refine ⟨fun hw => ?_, fun hw => by rw [wanted_of rfl (yielded_of rfl sg)] at hw; exact absurd hw (by decide)⟩
                  have s123 : a.tmps.getD 123 undef = .bool true := (d0 rfl).now
                  refine op_yields (.bool false) ?_ ?_ ?_
                  · simp only [execOp, resolve, List.map_toArray, List.map_cons, List.map_nil, Act.eval, s123]; simp [go_sem, -Array.getD_eq_getD_getElem?, s123]
                  · exact Below.refl _ _
                  · exact (fun _ _ => rfl)
                case o19 =>
                  intro a w hfr hG hd
                  obtain ⟨d0, d1, d2, _⟩ := hd
                  have sg : a.tmps.getD 122 undef = .bool false := (d1 rfl).now
                  refine ⟨fun hw => ?_, fun hw => by rw [wanted_of rfl (yielded_of rfl sg)] at hw; exact absurd hw (by decide)⟩
                  have s124 : a.tmps.getD 124 undef = .bool false := (d0 rfl).now
                  refine op_yields (.bool false) ?_ ?_ ?_
                  · simp only [execOp, resolve, List.map_toArray, List.map_cons, List.map_nil, Act.eval, s124]; simp [go_sem, -Array.getD_eq_getD_getElem?, s124]
                  · exact Below.refl _ _
                  · exact (fun _ _ => rfl)
                case o20 =>
                  intro a w hfr hG hd
                  obtain ⟨d0, _⟩ := hd
                  have sg : a.tmps.getD 125 undef = .bool false := (d0 rfl).now
                  refine ⟨fun hw => ?_, fun hw => fun _ _ => trivial⟩
                  rw [wanted_of rfl (yielded_of rfl sg)] at hw; exact absurd hw (by decide)
                case o21 =>
                  intro a w hfr hG hd
                  obtain ⟨d0, d1, _⟩ := hd
                  have sg : a.tmps.getD 125 undef = .bool false := (d1 rfl).now
                  refine ⟨fun hw => ?_, fun hw => fun _ _ => trivial⟩
                  rw [wanted_of rfl (yielded_of rfl sg)] at hw; exact absurd hw (by decide)
                case o22 =>
                  intro a w hfr hG hd
                  obtain ⟨d0, _⟩ := hd
                  have sg : a.tmps.getD 125 undef = .bool false := (d0 rfl).now
                  refine ⟨fun hw => ?_, fun hw => fun _ _ => trivial⟩
                  rw [wanted_of rfl (yielded_of rfl sg)] at hw; exact absurd hw (by decide)
                case o23 =>
                  intro a w hfr hG hd
                  obtain ⟨d0, d1, _⟩ := hd
                  have sg : a.tmps.getD 125 undef = .bool false := (d1 rfl).now
                  refine ⟨fun hw => ?_, fun hw => fun _ _ => trivial⟩
                  rw [wanted_of rfl (yielded_of rfl sg)] at hw; exact absurd hw (by decide)
                case o24 =>
                  intro a w hfr hG hd
                  obtain ⟨d0, d1, d2, d3, _⟩ := hd
                  have sg : a.tmps.getD 125 undef = .bool false := (d2 rfl).now
                  refine ⟨fun hw => ?_, fun hw => fun _ _ => trivial⟩
                  rw [wanted_of rfl (yielded_of rfl sg)] at hw; exact absurd hw (by decide)
                case o25 =>
                  intro a w hfr hG hd
                  obtain ⟨d0, d1, _⟩ := hd
                  have sg : a.tmps.getD 125 undef = .bool false := (d1 rfl).now
                  refine ⟨fun hw => ?_, fun hw => fun _ _ => trivial⟩
                  rw [wanted_of rfl (yielded_of rfl sg)] at hw; exact absurd hw (by decide)
                case o26 =>
                  intro a w hfr hG hd
                  obtain ⟨d0, d1, d2, _⟩ := hd
                  have sg : a.tmps.getD 122 undef = .bool false := (d2 rfl).now
                  refine ⟨fun hw => ?_, fun hw => by rw [wanted_of rfl (yielded_of rfl sg)] at hw; exact absurd hw (by decide)⟩
                  have s125 : a.tmps.getD 125 undef = .bool false := (d0 rfl).now
                  refine op_yields (.bool false) ?_ ?_ ?_
                  · simp only [execOp, resolve, List.map_toArray, List.map_cons, List.map_nil, Act.eval, s125]; simp [go_sem, -Array.getD_eq_getD_getElem?, s125]
                  · exact Below.refl _ _
                  · exact (fun _ _ => rfl)
                case o27 =>
                  intro a w hfr hG hd
                  obtain ⟨d0, d1, _⟩ := hd
                  refine ⟨fun hw => ?_, fun hw => absurd hw (by simp [Region.wanted])⟩
                  have s122 : a.tmps.getD 122 undef = .bool false := (d0 rfl).now
                  have s132 : a.tmps.getD 132 undef = .bool false := (d1 rfl).now
                  refine op_yields (.bool false) ?_ ?_ ?_
                  · simp only [execOp, resolve, List.map_toArray, List.map_cons, List.map_nil, Act.eval, s122, s132]; simp [go_sem, -Array.getD_eq_getD_getElem?, s122, s132]
                  · exact Below.refl _ _
                  · exact (fun _ _ => rfl)
                case hG => exact fun w' hb => ⟨(HP5.out.below (Below.refl _ _).drew).below hb, (HB5.out.below (Below.refl _ _).drew).below hb, HK5.out.drew1.below hb HK5.out.lt, (HY5.out.below (Below.refl _ _).drew).below hb⟩
                case hend =>
                  intro vs w' hG hv
                  obtain ⟨_, _, _, _, _, _, _, _, _, _, _, _, _, _, _, _, _, _, _, _, _, _, _, _, _, _, _, h27, _⟩ := hv
                  have e27 : vs 27 = .bool false := h27.now
                  have HU := Lib.hid hG.now
                  clear hG h27
                  simp only [putAll, Act.put, e27]
                  go_wp2_with fail
                  go_meet
                  exact ⟨rfl, HU.out.1, HU.out.2.1⟩
              case rest => as_aux_lemma =>
                obtain ⟨rfl, hp, hb⟩ := hcut
                have HP2 := Lib.hid hp; have HB2 := Lib.hid hb
                clear hp hb HP5 HB5 HK5 HY5 HNT
                have hol : os.length + 1 = N := by have h1 := HNN.out; rw [← HOS.out] at h1; simpa using h1
                have HOSL := Lib.hid (show os.length ≤ r by have := HNN.out; omega)
                obtain ⟨tk2, htk2⟩ : ∃ t2, tk + 1 = t2 := ⟨_, rfl⟩
                have HNX2 := Lib.hid (show nx = tk2 + d + os.length by have h1 := HNX.out; have h2 := HNN.out; omega)
                have i1 : IntKind.i64.wrap (((tk : Nat) : Int) + 1) = ((tk2 : Nat) : Int) := by rw [show ((tk : Nat) : Int) + 1 = ((tk2 : Nat) : Int) by omega]; exact IntWalk.i64_in _ (by have := HNX2.out; omega)
                have HAL2 := Lib.hid (show ∀ z ∈ os, z.al.length ≤ 1 from fun z hz => HAL.out z (by rw [← HOS.out]; exact List.mem_cons_of_mem _ hz))
                have HSL := Lib.hid (show ∃ ad0, A7 = some ad0 ∧ Sees wc wc.heap.size 3 (some ad0) N (ncells os1) ∧ ∃ cs f, wc.heap[ad0.block]? = some (.cells cs 27 f) from by
                  obtain ⟨A', c', hv, hs, ht, _, hd'⟩ := HP2.out.slc
                  injection hv with hv1 hv2 hv3
                  subst hv1; subst hv3
                  rw [← hv2] at hs ht
                  obtain ⟨ad0, e, _⟩ := hs.at_ (show 0 < N by omega)
                  subst e
                  exact ⟨ad0, rfl, hs, ht ad0 rfl (by omega)⟩)
                obtain ⟨ad0, rfl, hs0, cs0, f0, ht0⟩ := HSL.out
                clear HSL
                have hn1 : N - 1 = os.length := by omega
                have hs1 := hs0.drop (k := 1) (cap := c7) (by omega) (by omega)
                rw [ncells_drop, ← HOS.out, hn1] at hs1
                by_cases h1 : c7 = 1
                · subst h1
                  rw [if_pos rfl] at hs1
                  have HPX := Lib.hid (show PlAt w (.slice (some ad0) os.length 0) os wc from ⟨⟨_, 0, rfl, hs1, fun ad ha hp => by injection ha with ha; subst ha; exact ⟨_, _, ht0⟩, by omega, by omega⟩, fun z hz => HP2.out.ok z (by rw [← HOS.out]; exact List.mem_cons_of_mem _ hz), HP2.out.bel⟩)
                  clear hs0 hs1 ht0
                  go_upto_region 33 with fail
                  clear HP2 hn1 i1 hol htk2
                  have hln : l.length = os.length := by have := congrArg List.length HK2.out; simpa using this
                  have HCN := Lib.hid (blen_any b c r _ l _ HB2.out); have HCD := Lib.hid (bdropped_any b c r _ l _ HB2.out)
                  rw [hln] at HCN
                  have hosr : os.length ≤ 8 := by have := HOSL.out; omega
                  have j1 : IntKind.i64.wrap (((tk2 : Nat) : Int) + ((d : Nat) : Int)) = ((tk2 : Nat) : Int) + ((d : Nat) : Int) := IntWalk.i64_in _ (by have := HNX2.out; omega)
                  have j2 : IntKind.i64.wrap (((tk2 : Nat) : Int) + ((d : Nat) : Int) + ((os.length : Nat) : Int)) = ((tk2 : Nat) : Int) + ((d : Nat) : Int) + ((os.length : Nat) : Int) := IntWalk.i64_in _ (by have := HNX2.out; omega)
                  have j3 : ((((nx : Nat) : Int)) != ((tk2 : Nat) : Int) + ((d : Nat) : Int) + ((os.length : Nat) : Int)) = false := by rw [show (((nx : Nat) : Int)) = ((tk2 : Nat) : Int) + ((d : Nat) : Int) + ((os.length : Nat) : Int) by have := HNX2.out; omega]; simp
                  clear hln
                  go_wp2_with fail
                  (with_reducible refine HCN.out.mono ?_); rintro e wq ⟨rfl, rfl⟩
                  go_wp2_with fail
                  (with_reducible refine HCD.out.mono ?_); rintro e wq ⟨rfl, rfl⟩
                  go_wp2_with fail
                  go_roundg gout
                  case measure => omega
                  case rel => exact ⟨i + 1, d, nx, tk2, os, l, by omega, by go_num, rfl, rfl, rfl, HPX.out, HB2.out, HK2.out, HOSL.out, HNX2.out, by omega, HAL2.out⟩
                · rw [if_neg h1] at hs1
                  have HPX := Lib.hid (show PlAt w (.slice (some (ad0.add 3)) os.length (c7 - 1)) os wc from ⟨⟨_, c7 - 1, rfl, hs1, fun ad ha hp => by injection ha with ha; subst ha; rw [add_block]; exact ⟨_, _, ht0⟩, by omega, by omega⟩, fun z hz => HP2.out.ok z (by rw [← HOS.out]; exact List.mem_cons_of_mem _ hz), HP2.out.bel⟩)
                  clear hs0 hs1 ht0
                  go_upto_region 33 with fail
                  clear HP2 hn1 i1 hol htk2
                  have hln : l.length = os.length := by have := congrArg List.length HK2.out; simpa using this
                  have HCN := Lib.hid (blen_any b c r _ l _ HB2.out); have HCD := Lib.hid (bdropped_any b c r _ l _ HB2.out)
                  rw [hln] at HCN
                  have hosr : os.length ≤ 8 := by have := HOSL.out; omega
                  have j1 : IntKind.i64.wrap (((tk2 : Nat) : Int) + ((d : Nat) : Int)) = ((tk2 : Nat) : Int) + ((d : Nat) : Int) := IntWalk.i64_in _ (by have := HNX2.out; omega)
                  have j2 : IntKind.i64.wrap (((tk2 : Nat) : Int) + ((d : Nat) : Int) + ((os.length : Nat) : Int)) = ((tk2 : Nat) : Int) + ((d : Nat) : Int) + ((os.length : Nat) : Int) := IntWalk.i64_in _ (by have := HNX2.out; omega)
                  have j3 : ((((nx : Nat) : Int)) != ((tk2 : Nat) : Int) + ((d : Nat) : Int) + ((os.length : Nat) : Int)) = false := by rw [show (((nx : Nat) : Int)) = ((tk2 : Nat) : Int) + ((d : Nat) : Int) + ((os.length : Nat) : Int) by have := HNX2.out; omega]; simp
                  clear hln
                  go_wp2_with fail
                  (with_reducible refine HCN.out.mono ?_); rintro e wq ⟨rfl, rfl⟩
                  go_wp2_with fail
                  (with_reducible refine HCD.out.mono ?_); rintro e wq ⟨rfl, rfl⟩
                  go_wp2_with fail
                  go_roundg gout
                  case measure => omega
                  case rel => exact ⟨i + 1, d, nx, tk2, os, l, by omega, by go_num, rfl, rfl, rfl, HPX.out, HB2.out, HK2.out, HOSL.out, HNX2.out, by omega, HAL2.out⟩
        · as_aux_lemma =>
          have b2 : (kd == 2) = false := beq_eq_false_iff_ne.2 hk2
          clear HWN hk1 hk2
          have hln : l.length = os.length := by have := congrArg List.length HKY.out; simpa using this
          obtain ⟨A7, c7, hv7, _⟩ := HP.out.slc
          have HCN := Lib.hid (blen_any b c r _ l _ HB.out); have HCD := Lib.hid (bdropped_any b c r _ l _ HB.out)
          rw [hln] at HCN
          subst hv7
          have hosr : os.length ≤ 8 := by omega
          have j1 : IntKind.i64.wrap (((tk : Nat) : Int) + ((d : Nat) : Int)) = ((tk : Nat) : Int) + ((d : Nat) : Int) := IntWalk.i64_in _ (by have := HNX.out; omega)
          have j2 : IntKind.i64.wrap (((tk : Nat) : Int) + ((d : Nat) : Int) + ((os.length : Nat) : Int)) = ((tk : Nat) : Int) + ((d : Nat) : Int) + ((os.length : Nat) : Int) := IntWalk.i64_in _ (by have := HNX.out; omega)
          have j3 : ((((nx : Nat) : Int)) != ((tk : Nat) : Int) + ((d : Nat) : Int) + ((os.length : Nat) : Int)) = false := by rw [show (((nx : Nat) : Int)) = ((tk : Nat) : Int) + ((d : Nat) : Int) + ((os.length : Nat) : Int) by have := HNX.out; omega]; simp
          clear hln
          go_wp2_with fail
          (with_reducible refine HCN.out.mono ?_); rintro e wq ⟨rfl, rfl⟩
          go_wp2_with fail
          (with_reducible refine HCD.out.mono ?_); rintro e wq ⟨rfl, rfl⟩
          go_wp2_with fail
          go_roundg gout
          case measure => omega
          case rel => exact ⟨i + 1, d, nx, tk, os, l, by omega, by go_num, rfl, rfl, rfl, HP.out, HB.out, HKY.out, by omega, HNX.out, by omega, HAL.out⟩
end Go.Proofs.Ytepgllmenljkcaa
