/- klaxonkeep.Tree.Tree. -/
import Derived.Test.YtddkkfjgdfdcnaaTree
import Derived.Test.YtddkkfjgdfdcnaaGoesMath
import Derived.Test.YtddkkfjgdfdcnaaSet2
namespace Go.Proofs.Ytddkkfjgdfdcnaa
open Go.ChangeShapes Go.WideShapes Go.ChangeAt Go.RowKit
set_option linter.unusedVariables false
set_option linter.unusedSimpArgs false
set_option maxRecDepth 100000
theorem Try.infoIntT : (Try.prog.info? 3).map (fun i => (i.zero, i.size, i.bytes)) = some (some (.int .i64 0), 1, 8) := by kernel_rfl
/-- Numbers of which a tree is made. -/
structure KTree where
  A : Option Addr
  n : Nat
  c : Nat
  us : List Int
  A2 : Option Addr
  n2 : Nat
  c2 : Nat
  ms : List Int
  A3 : Option Addr
  n3 : Nat
  c3 : Nat
  gs : List Int
def KTree.val (k : KTree) : Value := .agg #[.slice k.A k.n k.c, .slice k.A2 k.n2 k.c2, .slice k.A3 k.n3 k.c3]
structure KTree.ok (k : KTree) (B : Nat) (w : World) : Prop where
  us_ : Sees w B 1 k.A k.n (ints k.us)
  usI : ∀ z ∈ k.us, I64 z
  n_ : k.n ≤ k.c ∧ k.c ≤ 9223372036854775807
  ms_ : Sees w B 1 k.A2 k.n2 (ints k.ms)
  msI : ∀ z ∈ k.ms, I64 z
  n2_ : k.n2 ≤ k.c2 ∧ k.c2 ≤ 9223372036854775807
  gs_ : Sees w B 1 k.A3 k.n3 (ints k.gs)
  gsI : ∀ z ∈ k.gs, I64 z
  n3_ : k.n3 ≤ k.c3 ∧ k.c3 ≤ 9223372036854775807
theorem KTree.ok.below {k : KTree} {B : Nat} {w w' : World} (h : k.ok B w) (hb : Below B w w') : k.ok B w' := ⟨h.us_.below hb, h.usI, h.n_, h.ms_.below hb, h.msI, h.n2_, h.gs_.below hb, h.gsI, h.n3_⟩
theorem pick_I64 {l : List Int} (h : ∀ z ∈ l, I64 z) (i : Nat) : I64 (pickF l i) := by
  rw [pickF]
  split
  · exact h _ (List.getElem_mem _)
  · unfold I64; omega
/-- A node as it lies. -/
def NodeAt (lo : Nat) (q : RT) (w : World) : Prop := q.kv = .slice none 0 0 ∧ nodeOk q ∧ ((q.mv = .slice none 0 0 ∧ q.ms = []) ∨ ∃ (g : Nat) (m : Mtc), lo ≤ g ∧ q.mv = .slice (some ⟨g, 0, none⟩) 1 1 ∧ q.ms = [m] ∧ Blk w g 24 [.string m.1, .string m.2.1, .int .i64 m.2.2])
theorem NodeAt.hasM {lo : Nat} {q : RT} {w : World} (h : NodeAt lo q w) : HasM w q.mv q.ms := by
  obtain ⟨_, _, ⟨h1, h2⟩ | ⟨g, m, _, h1, h2, h3⟩⟩ := h
  · rw [h1, h2]; exact ⟨none, 0, rfl, Sees.nil, Nat.le_refl _, by simp⟩
  · rw [h1, h2]; exact ⟨some ⟨g, 0, none⟩, 1, rfl, h3.sees rfl (List.prefix_refl _), Nat.le_refl _, by simp⟩
theorem NodeAt.below {lo : Nat} {q : RT} {w w' : World} (h : NodeAt lo q w) (hb : Below w.heap.size w w') : NodeAt lo q w' := by
  obtain ⟨h0, h1, h2 | ⟨g, m, hlo, h3, h4, h5⟩⟩ := h
  · exact ⟨h0, h1, .inl h2⟩
  · exact ⟨h0, h1, .inr ⟨g, m, hlo, h3, h4, h5.below hb h5.lt⟩⟩
theorem NodeAt.grown {lo : Nat} {q : RT} {w w' : World} {b s n : Nat} {e : TypeId} {v : Value} {xs : List Value} (h : NodeAt lo q w) (ho : w.ownsRow b e s v n xs) (he : e ≠ 24) (hg : w.grownBy w' v.ownBlock) : NodeAt lo q w' := by
  obtain ⟨h0, h1, h2 | ⟨g, m, hlo, h3, h4, h5⟩⟩ := h
  · exact ⟨h0, h1, .inl h2⟩
  · exact ⟨h0, h1, .inr ⟨g, m, hlo, h3, h4, h5.grown hg (fun e2 => own_ne_blk ho h5 he e2.symm)⟩⟩
/-- Within Tree's loop. -/
structure TrAt (k : KTree) (w0 : World) (b1 b2 : Nat) (ns : List RT) (us : List Int) (n : Nat) (X : Option Addr) (cx : Nat) (Y : Option Addr) (cy : Nat) (w : World) : Prop where
  box : Blk w b1 39 [.slice k.A k.n k.c, .slice k.A2 k.n2 k.c2, .slice k.A3 k.n3 k.c3]
  res : Blk w b2 28 [.slice none 0 0, .string ⟨#[]⟩, .bool false, .slice none 0 0]
  ok : k.ok w0.heap.size w
  nodes : w.ownsRow (b2 + 1) 28 4 (.slice X n cx) n (quad (ns.map RT.cells))
  under : w.ownsRow (b2 + 1) 3 1 (.slice Y n cy) n (ints us)
  len1 : ns.length = n
  len2 : us.length = n
  at_ : ∀ q ∈ ns, NodeAt w0.heap.size q w
  first : ∃ h : 0 < ns.length, ns[0].ms = []
  u : UOk us
  bel : Below w0.heap.size w0 w
  lt : w0.heap.size ≤ b1 ∧ b1 < b2
theorem TrAt.below {k : KTree} {w0 : World} {b1 b2 : Nat} {ns : List RT} {us : List Int} {n : Nat} {X : Option Addr} {cx : Nat} {Y : Option Addr} {cy : Nat} {w w' : World} (h : TrAt k w0 b1 b2 ns us n X cx Y cy w) (hb : Below w.heap.size w w') : TrAt k w0 b1 b2 ns us n X cx Y cy w' :=
  ⟨h.box.below hb h.box.lt, h.res.below hb h.res.lt, h.ok.below (hb.mono h.bel.size), own_below h.nodes hb (Nat.le_refl _), own_below h.under hb (Nat.le_refl _), h.len1, h.len2, fun q hq => (h.at_ q hq).below hb, h.first, h.u, h.bel.trans (hb.mono h.bel.size), h.lt⟩
theorem NodeAt.setR {lo : Nat} {q : RT} {w : World} {b8 i : Nat} {cs : List Value} {v : Value} (h : NodeAt lo q w) (hb : Blk w b8 28 cs) : NodeAt lo q (w.setCell ⟨b8, i, none⟩ v) := by
  obtain ⟨h0, h1, h2 | ⟨g, m, hlo, h3, h4, h5⟩⟩ := h
  · exact ⟨h0, h1, .inl h2⟩
  · refine ⟨h0, h1, .inr ⟨g, m, hlo, h3, h4, h5.far (fun e => ?_) _⟩⟩
    have e2 : g = b8 := e
    subst e2
    have h6 := h5.eq.symm.trans hb.eq
    injection h6 with h6; injection h6 with _ h6
    exact absurd h6 (by decide)
theorem TrAt.setR {k : KTree} {w0 : World} {b1 b2 b8 i : Nat} {ns : List RT} {us : List Int} {n : Nat} {X : Option Addr} {cx : Nat} {Y : Option Addr} {cy : Nat} {w : World} {cs : List Value} (h : TrAt k w0 b1 b2 ns us n X cx Y cy w) (hb : Blk w b8 28 cs) (h2 : b2 < b8) (hx : ∀ g, (Value.slice X n cx).ownBlock = some g → g < b8) (v : Value) : TrAt k w0 b1 b2 ns us n X cx Y cy (w.setCell ⟨b8, i, none⟩ v) := by
  have hg : w.grownBy (w.setCell ⟨b8, i, none⟩ v) (some b8) := only_setCell (World.grownBy.refl w (some b8)) (p := ⟨b8, i, none⟩) (.inl rfl) v
  have hlt := h.lt
  exact ⟨h.box.far (by show b1 ≠ b8; omega) v, h.res.far (by show b2 ≠ b8; omega) v, ⟨h.ok.us_.setCell (p := ⟨b8, i, none⟩) (by show w0.heap.size ≤ b8; omega) v, h.ok.usI, h.ok.n_, h.ok.ms_.setCell (p := ⟨b8, i, none⟩) (by show w0.heap.size ≤ b8; omega) v, h.ok.msI, h.ok.n2_, h.ok.gs_.setCell (p := ⟨b8, i, none⟩) (by show w0.heap.size ≤ b8; omega) v, h.ok.gsI, h.ok.n3_⟩,
    own_grown h.nodes hg (fun g e e2 => by have h1 := hx g e; injection e2 with e2; omega), own_grown h.under hg (fun g e e2 => by injection e2 with e2; subst e2; exact own_ne_blk h.under hb (by decide) e), h.len1, h.len2, fun q hq => (h.at_ q hq).setR hb, h.first, h.u, h.bel.setCell (p := ⟨b8, i, none⟩) (by show w0.heap.size ≤ b8; omega) v, hlt⟩
theorem TrAt.next {k : KTree} {w0 : World} {b1 b2 : Nat} {ns : List RT} {us : List Int} {n : Nat} {X X3 : Option Addr} {cx cx3 : Nat} {Y Y4 : Option Addr} {cy cy4 : Nat} {w w3 w4 : World} {q : RT} {p2 : Nat} {o : Obj} (h : TrAt k w0 b1 b2 ns us n X cx Y cy w) (hq : NodeAt w0.heap.size q w)
    (ho3 : w3.ownsRow (b2 + 1) 28 4 (.slice X3 (n + 1) cx3) (n + 1) (quad (ns.map RT.cells) ++ [q.cells.1, q.cells.2.1, q.cells.2.2.1, q.cells.2.2.2])) (hg3 : w.grownBy w3 (Value.slice X n cx).ownBlock)
    (ho4 : w4.ownsRow (b2 + 1) 3 1 (.slice Y4 (n + 1) cy4) (n + 1) (ints us ++ [.int .i64 p2])) (hg4 : (w3.alloc o).grownBy w4 (Value.slice Y n cy).ownBlock) (hp : p2 < n) (hz : 0 < p2 → us[p2]? = some 0) :
    TrAt k w0 b1 b2 (ns ++ [q]) (us ++ [(p2 : Int)]) (n + 1) X3 cx3 Y4 cy4 w4 := by
  have hlt := h.lt
  have hb3 := (Below.refl w3.heap.size w3).alloc (Nat.le_refl _) o
  have hxg : ∀ g, (Value.slice X n cx).ownBlock = some g → b2 + 1 ≤ g := fun g hg => (h.nodes.lt g hg).1
  have hyg : ∀ g, (Value.slice Y n cy).ownBlock = some g → b2 + 1 ≤ g := fun g hg => (h.under.lt g hg).1
  have u3 := own_below (own_grown h.under hg3 (own_ne h.under h.nodes (by decide))) hb3 (Nat.le_refl _)
  have n3 := own_below ho3 hb3 (Nat.le_refl _)
  have bx3 := (h.box.grown hg3 (fun e => own_ne_blk h.nodes h.box (by decide) e.symm)).alloc o
  have hs1 := h.bel.size
  have hs3 : w.heap.size ≤ (w3.alloc o).heap.size := Nat.le_trans hg3.size hb3.size
  have be3 : Below w0.heap.size w0 (w3.alloc o) := (h.bel.grown hg3 hs1 (fun g hg => by have := hxg g hg; omega)).alloc (by have := hg3.size; omega) o
  have ok3 : ∀ A n l, Sees w w0.heap.size 1 A n l → Sees w4 w0.heap.size 1 A n l := fun A n l hs => (((hs.grown hg3 hs1 (fun g hg => by have := hxg g hg; omega)).alloc (by have := hg3.size; omega) o).grown hg4 (Nat.le_trans hs1 hs3) (fun g hg => by have := hyg g hg; omega))
  have at3 : ∀ x, NodeAt w0.heap.size x w → NodeAt w0.heap.size x w4 := fun x hx => ((hx.grown h.nodes (by decide) hg3).below hb3).grown u3 (by decide) hg4
  refine ⟨bx3.grown hg4 (fun e => own_ne_blk u3 bx3 (by decide) e.symm), ((h.res.grown hg3 (fun e => by have := hxg _ e.symm; omega)).alloc o).grown hg4 (fun e => by have := hyg _ e.symm; omega), ⟨ok3 _ _ _ h.ok.us_, h.ok.usI, h.ok.n_, ok3 _ _ _ h.ok.ms_, h.ok.msI, h.ok.n2_, ok3 _ _ _ h.ok.gs_, h.ok.gsI, h.ok.n3_⟩, ?_, ?_, by simp [h.len1], by simp [h.len2], fun x hx => ?_, ?_, ?_, be3.grown hg4 (Nat.le_trans hs1 hs3) (fun g hg => by have := hyg g hg; omega), hlt⟩
  · rw [List.map_append, quad_append]
    exact own_grown n3 hg4 (own_ne n3 u3 (by decide))
  · rw [ints_append]; exact ho4
  · rcases List.mem_append.1 hx with hx | hx
    · exact at3 x (h.at_ x hx)
    · rw [List.mem_singleton] at hx; subst hx; exact at3 _ hq
  · obtain ⟨h0, h1⟩ := h.first
    exact ⟨by rw [List.length_append]; omega, by rw [List.getElem_append_left h0]; exact h1⟩
  · exact h.u.snoc (by omega) (by rw [h.len2]; omega) (fun h0 => by rw [Int.toNat_natCast]; exact hz (by omega))
/-- The first node. -/
def node0 : RT := .mk (.slice none 0 0) [] ⟨#[114]⟩ false (.slice none 0 0) []
theorem node0_ok : nodeOk node0 := ⟨by decide, by decide, (fun z hz => absurd hz List.not_mem_nil), by decide⟩
theorem trAt_start (k : KTree) (w : World) (h : k.ok w.heap.size w) : TrAt k w w.heap.size (w.heap.size + 1) [node0] [-1] 1 (some ⟨w.heap.size + 1 + 1, 0, none⟩) 1 (some ⟨w.heap.size + 1 + 1 + 1, 0, none⟩) 1 ((((w.alloc (.cells #[.slice k.A k.n k.c, .slice k.A2 k.n2 k.c2, .slice k.A3 k.n3 k.c3] 39)).alloc (.cells #[.slice none 0 0, .string ⟨#[]⟩, .bool false, .slice none 0 0] 28)).alloc (.cells #[.slice none 0 0, .string ⟨#[114]⟩, .bool false, .slice none 0 0] 28)).alloc (.cells #[.int .i64 (-1)] 3)) := by
  have s1 : (w.alloc (.cells #[.slice k.A k.n k.c, .slice k.A2 k.n2 k.c2, .slice k.A3 k.n3 k.c3] 39)).heap.size = w.heap.size + 1 := by simp
  have hb : Below w.heap.size w ((((w.alloc (.cells #[.slice k.A k.n k.c, .slice k.A2 k.n2 k.c2, .slice k.A3 k.n3 k.c3] 39)).alloc (.cells #[.slice none 0 0, .string ⟨#[]⟩, .bool false, .slice none 0 0] 28)).alloc (.cells #[.slice none 0 0, .string ⟨#[114]⟩, .bool false, .slice none 0 0] 28)).alloc (.cells #[.int .i64 (-1)] 3)) := ((((Below.refl _ w).alloc (Nat.le_refl _) _).alloc (by simp) _).alloc (by simp; omega) _).alloc (by simp; omega) _
  have k1 : Blk ((((w.alloc (.cells #[.slice k.A k.n k.c, .slice k.A2 k.n2 k.c2, .slice k.A3 k.n3 k.c3] 39)).alloc (.cells #[.slice none 0 0, .string ⟨#[]⟩, .bool false, .slice none 0 0] 28)).alloc (.cells #[.slice none 0 0, .string ⟨#[114]⟩, .bool false, .slice none 0 0] 28)).alloc (.cells #[.int .i64 (-1)] 3)) w.heap.size 39 [.slice k.A k.n k.c, .slice k.A2 k.n2 k.c2, .slice k.A3 k.n3 k.c3] := (((Blk.mk (heap_alloc_new w _)).alloc _).alloc _).alloc _
  have k2 : Blk ((((w.alloc (.cells #[.slice k.A k.n k.c, .slice k.A2 k.n2 k.c2, .slice k.A3 k.n3 k.c3] 39)).alloc (.cells #[.slice none 0 0, .string ⟨#[]⟩, .bool false, .slice none 0 0] 28)).alloc (.cells #[.slice none 0 0, .string ⟨#[114]⟩, .bool false, .slice none 0 0] 28)).alloc (.cells #[.int .i64 (-1)] 3)) (w.heap.size + 1) 28 [.slice none 0 0, .string ⟨#[]⟩, .bool false, .slice none 0 0] := by
    have h := heap_alloc_new (w.alloc (.cells #[.slice k.A k.n k.c, .slice k.A2 k.n2 k.c2, .slice k.A3 k.n3 k.c3] 39)) (.cells #[.slice none 0 0, .string ⟨#[]⟩, .bool false, .slice none 0 0] 28)
    rw [s1] at h
    exact ((Blk.mk h).alloc _).alloc _
  have k3 : Blk ((((w.alloc (.cells #[.slice k.A k.n k.c, .slice k.A2 k.n2 k.c2, .slice k.A3 k.n3 k.c3] 39)).alloc (.cells #[.slice none 0 0, .string ⟨#[]⟩, .bool false, .slice none 0 0] 28)).alloc (.cells #[.slice none 0 0, .string ⟨#[114]⟩, .bool false, .slice none 0 0] 28)).alloc (.cells #[.int .i64 (-1)] 3)) (w.heap.size + 1 + 1) 28 [.slice none 0 0, .string ⟨#[114]⟩, .bool false, .slice none 0 0] := by
    have h := heap_alloc_new ((w.alloc (.cells #[.slice k.A k.n k.c, .slice k.A2 k.n2 k.c2, .slice k.A3 k.n3 k.c3] 39)).alloc (.cells #[.slice none 0 0, .string ⟨#[]⟩, .bool false, .slice none 0 0] 28)) (.cells #[.slice none 0 0, .string ⟨#[114]⟩, .bool false, .slice none 0 0] 28)
    rw [show ((w.alloc (.cells #[.slice k.A k.n k.c, .slice k.A2 k.n2 k.c2, .slice k.A3 k.n3 k.c3] 39)).alloc (.cells #[.slice none 0 0, .string ⟨#[]⟩, .bool false, .slice none 0 0] 28)).heap.size = w.heap.size + 1 + 1 by simp] at h
    exact (Blk.mk h).alloc _
  have k4 : Blk ((((w.alloc (.cells #[.slice k.A k.n k.c, .slice k.A2 k.n2 k.c2, .slice k.A3 k.n3 k.c3] 39)).alloc (.cells #[.slice none 0 0, .string ⟨#[]⟩, .bool false, .slice none 0 0] 28)).alloc (.cells #[.slice none 0 0, .string ⟨#[114]⟩, .bool false, .slice none 0 0] 28)).alloc (.cells #[.int .i64 (-1)] 3)) (w.heap.size + 1 + 1 + 1) 3 [.int .i64 (-1)] := by
    have h := heap_alloc_new (((w.alloc (.cells #[.slice k.A k.n k.c, .slice k.A2 k.n2 k.c2, .slice k.A3 k.n3 k.c3] 39)).alloc (.cells #[.slice none 0 0, .string ⟨#[]⟩, .bool false, .slice none 0 0] 28)).alloc (.cells #[.slice none 0 0, .string ⟨#[114]⟩, .bool false, .slice none 0 0] 28)) (.cells #[.int .i64 (-1)] 3)
    rw [show (((w.alloc (.cells #[.slice k.A k.n k.c, .slice k.A2 k.n2 k.c2, .slice k.A3 k.n3 k.c3] 39)).alloc (.cells #[.slice none 0 0, .string ⟨#[]⟩, .bool false, .slice none 0 0] 28)).alloc (.cells #[.slice none 0 0, .string ⟨#[114]⟩, .bool false, .slice none 0 0] 28)).heap.size = w.heap.size + 1 + 1 + 1 by simp] at h
    exact Blk.mk h
  exact ⟨k1, k2, h.below hb, k3.owns (n := 1) (cap := 1) (size := 4) (Nat.le_refl _) (Nat.le_refl _) (by unfold maxLen; omega) rfl, k4.owns (n := 1) (cap := 1) (size := 1) (by omega) (Nat.le_refl _) (by unfold maxLen; omega) rfl, rfl, rfl, fun q hq => by
    rw [List.mem_singleton] at hq; subst hq; exact ⟨rfl, node0_ok, .inl ⟨rfl, rfl⟩⟩, ⟨by decide, rfl⟩, UOk.one, hb, Nat.le_refl _, Nat.lt_succ_self _⟩
theorem I64_tdiv {v d : Int} (h : I64 v) (hd : 0 < d) : I64 (v.tdiv d) := by
  unfold I64 at *
  have h1 : (v.tdiv d).natAbs ≤ v.natAbs := by
    rw [Int.natAbs_tdiv]; exact Nat.div_le_self _ _
  rcases Int.le_total 0 v with h2 | h2
  · have := Int.tdiv_nonneg h2 (Int.le_of_lt hd)
    omega
  · have : v.tdiv d ≤ 0 := by
      have h3 := Int.tdiv_nonneg (a := -v) (b := d) (by omega) (Int.le_of_lt hd)
      rw [Int.neg_tdiv] at h3; omega
    omega
theorem mtc_ok {a c : Nat} {kd : Int} (ha : a < 3) (hc : c < 4) (h1 : 1 ≤ kd) (h2 : kd ≤ 4) : rightM [(keepNames.getD a ⟨#[]⟩, keepValues.getD c ⟨#[]⟩, kd)] = true ∧ ∀ z ∈ [(keepNames.getD a ⟨#[]⟩, keepValues.getD c ⟨#[]⟩, kd)], z.1.size ≤ 9223372036854775807 ∧ z.2.1.size ≤ 9223372036854775807 := by
  have hw := keepName_word ha
  have hv := keepValue_ok (q := c) (by omega)
  have hs : decide (signF kd = ⟨#[]⟩) = false := by
    have hk : kd = 1 ∨ kd = 2 ∨ kd = 3 ∨ kd = 4 := by omega
    rcases hk with rfl | rfl | rfl | rfl <;> decide
  refine ⟨?_, fun z hz => ?_⟩
  · unfold rightM
    simp only [List.length_cons, List.length_nil, List.all_cons, List.all_nil, Bool.and_true, mtcOk, hw, decide_eq_true hv.2, hs]
    rfl
  · rw [List.mem_singleton] at hz; subst hz
    exact ⟨by have := (wordF_size hw).2; show (keepNames.getD a ⟨#[]⟩).size ≤ _; omega, by have := hv.2; show (keepValues.getD c ⟨#[]⟩).size ≤ _; omega⟩
theorem name_cell {w : World} {g a : Nat} (h : Blk w g 9 (strs keepNames)) (ha : a < 3) : w.cell? ⟨g, a, none⟩ = some (.string (keepNames.getD a ⟨#[]⟩)) := by
  rw [h.cell a]
  match a, ha with
  | 0, _ => rfl
  | 1, _ => rfl
  | 2, _ => rfl
theorem value_cell {w : World} {g a : Nat} (h : Blk w g 9 (strs keepValues)) (ha : a < 4) : w.cell? ⟨g, a, none⟩ = some (.string (keepValues.getD a ⟨#[]⟩)) := by
  rw [h.cell a]
  match a, ha with
  | 0, _ => rfl
  | 1, _ => rfl
  | 2, _ => rfl
  | 3, _ => rfl
/-- string([]byte{c}), of a block that holds it. -/
theorem conv_at (w : World) (g : Nat) (c : UInt8) (v : Int) (hv : v = c.toNat) (hb : Blk w g 5 [.int .u8 v]) :
    (convert 54 9 (.slice (some ⟨g, 0, none⟩) 1 1)).run Try.prog w = .ok (.string ⟨#[c]⟩) w := by
  subst hv
  refine run_convert_bytes_back _ 54 9 5 ⟨g, 0, none⟩ 1 [c] Try.underlying54 Try.underlying5 Try.underlying9 fun j hj => ?_
  have hj0 : j = 0 := by simpa using hj
  subst hj0
  rw [add_zero']
  exact hb.cell 0
theorem node_blk1 (D : World) (o : Obj) (cs : List Value) : Blk ((D.alloc o).alloc (.cells cs.toArray 28)) (D.heap.size + 1) 28 cs := by
  have h := heap_alloc_new (D.alloc o) (.cells cs.toArray 28)
  rw [show (D.alloc o).heap.size = D.heap.size + 1 by simp] at h
  exact Blk.mk h
theorem node_blk2 (D : World) (o : Obj) (cs : List Value) : Blk ((D.alloc (.cells cs.toArray 28)).alloc o) D.heap.size 28 cs := (Blk.mk (heap_alloc_new D _)).alloc o
/-- A tree of numbers, as the call answers it. -/
def TreeFar (w : World) (e : Ending) (w' : World) : Prop := ∃ r, e = .returned r.val ∧ FarS (fun b => b < w.heap.size) (okAt 3 r) w' ∧ rightT 3 r = true ∧ countF 3 r ≤ 9 ∧ szAt 3 r ∧ Below w.heap.size w w'
def TreeAns (w : World) (e : Ending) (w' : World) : Prop := ∃ r, e = .returned r.val ∧ okAt 3 r w' ∧ rightT 3 r = true ∧ countF 3 r ≤ 9 ∧ szAt 3 r ∧ Below w.heap.size w w'
set_option maxHeartbeats 8000000 in
theorem tree_far (k : KTree) (w : World) (h : k.ok w.heap.size w) : Calls Try.prog 11 #[k.val] w (TreeFar w) := by
  obtain ⟨i0, hi0, hz0, hz1, hz2⟩ := info_parts Try.infoRt
  obtain ⟨j0, hj0, jz0, jz1, jz2⟩ := info_parts Try.infoIntT
  have HT0 := Lib.hid (trAt_start k w h)
  have hn := h.n_
  have hn2 := h.n2_
  have hn3 := h.n3_
  clear h
  obtain ⟨K, hK⟩ : ∃ K, min k.n 8 = K := ⟨_, rfl⟩
  have hK8 : K ≤ 8 := by omega
  have hKn : K ≤ k.n := by omega
  have HK := Lib.hid hK
  clear hK
  show Calls _ _ #[.agg #[.slice k.A k.n k.c, .slice k.A2 k.n2 k.c2, .slice k.A3 k.n3 k.c3]] _ _
  go_enter Try.func11, Try.ntmps11
  go_upto_block 0 with fail
  generalize (((w.alloc (.cells #[.slice k.A k.n k.c, .slice k.A2 k.n2 k.c2, .slice k.A3 k.n3 k.c3] 39)).alloc (.cells #[.slice none 0 0, .string ⟨#[]⟩, .bool false, .slice none 0 0] 28)).alloc (.cells #[.slice none 0 0, .string ⟨#[114]⟩, .bool false, .slice none 0 0] 28)).alloc (.cells #[.int .i64 (-1)] 3) = W1 at *
  obtain ⟨b1, hb1⟩ : ∃ b, w.heap.size = b := ⟨_, rfl⟩
  obtain ⟨b2, hb2⟩ : ∃ b, w.heap.size + 1 = b := ⟨_, rfl⟩
  have HB1 := Lib.hid hb1
  have HB2 := Lib.hid hb2
  have HT1 := Lib.hid (show TrAt k w b1 b2 [node0] [-1] 1 (some ⟨w.heap.size + 1 + 1, 0, none⟩) 1 (some ⟨w.heap.size + 1 + 1 + 1, 0, none⟩) 1 W1 by have h := HT0.out; subst hb1; subst hb2; exact h)
  clear hb1 hb2 HT0
  rw [show (⟨w.heap.size, 0, none⟩ : Addr) = ⟨b1, 0, none⟩ by rw [HB1.out], show (⟨w.heap.size + 1, 0, none⟩ : Addr) = ⟨b2, 0, none⟩ by rw [HB2.out]]
  generalize (some ⟨w.heap.size + 1 + 1, 0, none⟩ : Option Addr) = X1 at *
  generalize (some ⟨w.heap.size + 1 + 1 + 1, 0, none⟩ : Option Addr) = Y1 at *
  go_cut [3, 4] from 12 to 85 (fun x3 x4 wx => ∃ (n : Nat) (ns : List RT) (us : List Int) (X : Option Addr) (cx : Nat) (Y : Option Addr) (cy : Nat), n ≤ 9 ∧ x3 = .slice X n cx ∧ x4 = .slice Y n cy ∧ TrAt k w b1 b2 ns us n X cx Y cy wx)
  case first =>
    go_wp2_with fail
    go_loopg [3, 4, 5] K (fun g x3 x4 x5 wr => ∃ (i n : Nat) (ns : List RT) (us : List Int) (X : Option Addr) (cx : Nat) (Y : Option Addr) (cy : Nat), i + g = K ∧ x5 = .int .i64 i ∧ Hid (n = i + 1) ∧ x3 = .slice X n cx ∧ x4 = .slice Y n cy ∧ TrAt k w b1 b2 ns us n X cx Y cy wr)
    case atStart => exact ⟨0, 1, _, _, X1, 1, Y1, 1, by omega, rfl, Lib.hid rfl, rfl, rfl, HT1.out⟩
    case round =>
      obtain ⟨i, n, ns, us, X, cx, Y, cy, hig, rfl, HN, rfl, rfl, hat⟩ := hrel
      have HT := Lib.hid hat
      clear hat HT1
      have c0 := HT.out.box.cell 0
      have c1 := HT.out.box.cell 1
      have c2 := HT.out.box.cell 2
      simp only [List.getElem?_cons_zero, List.getElem?_cons_succ] at c0 c1 c2
      cases gk with
      | zero =>
        obtain rfl : i = K := by omega
        have hk8 := HK.out
        have h9 : n ≤ 9 := by have := HN.out; omega
        clear hn2 hn3 c1 c2
        by_cases h8 : k.n ≤ 8
        · obtain rfl : k.n = i := by omega
          clear hk8
          go_wp2_with fail
          go_meet
          exact ⟨n, ns, us, X, cx, Y, cy, h9, rfl, rfl, HT.out⟩
        · obtain rfl : i = 8 := by omega
          have h7 : 8 < k.n := by omega
          clear hk8
          go_wp2_with fail
          go_meet
          exact ⟨n, ns, us, X, cx, Y, cy, h9, rfl, rfl, HT.out⟩
      | succ g =>
        have hik : i < k.n := by omega
        have hi8 : i < 8 := by omega
        have hn9 : n ≤ 9 := by have := HN.out; omega
        have hn0 : 0 < n := by have := HN.out; omega
        obtain ⟨ad, hkl, hA, e0⟩ := HT.out.ok.us_.int hik
        have hI := HT.out.ok.usI _ (List.getElem_mem hkl)
        rw [hA] at c0
        clear hA
        generalize k.us[i] = u at *
        have HWI := Lib.hid (within_any u 0 ((n : Int) - 1) wr hI (by omega) (by omega) (by omega))
        obtain ⟨hp1, hp2⟩ := nWithin_in u (lo := 0) (hi := (n : Int) - 1) (by omega)
        generalize nWithin u 0 ((n : Int) - 1) = p at *
        obtain ⟨pn, rfl⟩ := Int.eq_ofNat_of_zero_le hp1
        have hpn : pn < n := by omega
        clear hp1 hp2
        go_upto_region 6 with fail
        go_cut [6] (fun x6 wx => x6 = .int .i64 pn ∧ TrAt k w b1 b2 ns us n X cx Y cy wx)
        case first =>
          go_wp2_with fail
          (with_reducible refine HWI.out.mono ?_); rintro e wz ⟨rfl, rfl⟩
          go_wp2_with fail
          go_meet
          exact ⟨rfl, HT.out⟩
        case rest =>
          obtain ⟨rfl, hat⟩ := hcut
          have HT2 := Lib.hid hat
          clear hat HT HWI e0 c0 c1 c2
          obtain ⟨ay, hyl, hAy, y0⟩ := (Sees.of_own HT2.out.under).int hpn
          subst hAy
          have HNX := Lib.hid (fun (h0 : 0 < pn) => HT2.out.u.next pn hyl h0)
          have HGE := Lib.hid (List.getElem?_eq_getElem hyl)
          generalize us[pn] = q at *
          obtain ⟨b, hb⟩ : ∃ b : Bool, (decide (0 < pn) && decide (0 < q)) = b := ⟨_, rfl⟩
          have HBB := Lib.hid hb
          clear hb
          go_upto_region 7 with fail
          go_cut [40] (fun x40 wx => x40 = .bool b ∧ TrAt k w b1 b2 ns us n X cx (some ay) cy wx)
          case first =>
            by_cases h0 : 0 < pn
            · by_cases hq : 0 < q
              · have hbt : b = true := by rw [← HBB.out, decide_eq_true h0, decide_eq_true hq]; rfl
                have h0i : (0 : Int) < pn := by omega
                go_wp2_with fail
                go_meet
                exact ⟨by rw [hbt], HT2.out⟩
              · have hbt : b = false := by rw [← HBB.out, decide_eq_false hq, Bool.and_false]
                have h0i : (0 : Int) < pn := by omega
                have hqi : q ≤ 0 := by omega
                go_wp2_with fail
                go_meet
                exact ⟨by rw [hbt], HT2.out⟩
            · have hbt : b = false := by rw [← HBB.out, decide_eq_false h0, Bool.false_and]
              have h0i : (pn : Int) ≤ 0 := by omega
              go_wp2_with fail
              go_meet
              exact ⟨by rw [hbt], HT2.out⟩
          case rest =>
            obtain ⟨rfl, hat⟩ := hcut
            have HT := Lib.hid hat
            clear hat HT2 y0
            go_upto_if 40 with fail
            go_cut [6] (fun x6 wx => ∃ p2 : Nat, x6 = .int .i64 p2 ∧ p2 < n ∧ (0 < p2 → us[p2]? = some 0) ∧ TrAt k w b1 b2 ns us n X cx (some ay) cy wx)
            case first =>
              have HF := Lib.hid (show b = false → 0 < pn → us[pn]? = some 0 from fun hbf h0 => by
                have h1 := HNX.out h0
                have h2 := HBB.out
                rw [hbf, decide_eq_true h0, Bool.true_and, decide_eq_false_iff_not] at h2
                rw [HGE.out, show q = 0 by omega])
              clear HNX HGE HBB
              cases b with
              | true =>
                go_wp2_with fail
                go_meet
                exact ⟨0, rfl, hn0, (fun h => absurd h (by omega)), HT.out⟩
              | false =>
                go_wp2_with fail
                go_meet
                exact ⟨pn, rfl, hpn, HF.out (by first | rfl | trivial), HT.out⟩
            case rest =>
              obtain ⟨p2, rfl, hp2, hz2, hat⟩ := hcut
              have HT2 := Lib.hid hat
              have HZ2 := Lib.hid hz2
              clear hat HT hz2 HNX HGE HBB hyl hpn
              have c1 := HT2.out.box.cell 1
              simp only [List.getElem?_cons_zero, List.getElem?_cons_succ] at c1
              have HPK := Lib.hid (pick_any k.A2 k.n2 k.c2 w.heap.size k.ms i wc HT2.out.ok.ms_ (by omega) (by omega))
              have HPI := Lib.hid (pick_I64 HT2.out.ok.msI i)
              generalize pickF k.ms i = v at *
              go_upto_region 9 with fail
              go_cut [7] (fun x7 wx => x7 = .int .i64 v ∧ TrAt k w b1 b2 ns us n X cx (some ay) cy wx)
              case first =>
                go_wp2_with fail
                (with_reducible refine HPK.out.mono ?_); rintro e wz ⟨rfl, rfl⟩
                go_wp2_with fail
                go_meet
                exact ⟨rfl, HT2.out⟩
              case rest =>
                obtain ⟨rfl, hat⟩ := hcut
                have HT := Lib.hid hat
                clear hat HT2 HPK c1
                obtain ⟨j, hj⟩ : ∃ j, i % 5 = j := ⟨_, rfl⟩
                have hj5 : j < 5 := by omega
                have hmod : (i : Int).tmod 5 = (j : Int) := by rw [← hj]; rfl
                have hc97 : IntKind.u8.wrap (97 + (j : Int)) = 97 + j := by
                  match j, hj5 with
                  | 0, _ => rfl
                  | 1, _ => rfl
                  | 2, _ => rfl
                  | 3, _ => rfl
                  | 4, _ => rfl
                have HCV := Lib.hid (fun V g => conv_at V g (UInt8.ofNat (97 + j)) (97 + (j : Int)) (by
                  match j, hj5 with
                  | 0, _ => rfl
                  | 1, _ => rfl
                  | 2, _ => rfl
                  | 3, _ => rfl
                  | 4, _ => rfl))
                have HNM : Hid (wordF (⟨#[UInt8.ofNat (97 + j)]⟩ : ByteArray) = true) := Lib.hid (by
                  match j, hj5 with
                  | 0, _ => decide
                  | 1, _ => decide
                  | 2, _ => decide
                  | 3, _ => decide
                  | 4, _ => decide)
                clear hj
                generalize (⟨#[UInt8.ofNat (97 + j)]⟩ : ByteArray) = nm at *
                go_upto_region 10 with fail
                go_cut [8] (fun x8 wx => ∃ (b8 : Nat) (gb : Bool), x8 = .pointer (some ⟨b8, 0, none⟩) ∧ b2 < b8 ∧ (∀ g, (Value.slice X n cx).ownBlock = some g → g < b8) ∧ Blk wx b8 28 [.slice none 0 0, .string nm, .bool gb, .slice none 0 0] ∧ TrAt k w b1 b2 ns us n X cx (some ay) cy wx)
                case first => --done
                  have tokA : True := trivial
                  obtain ⟨D, hD⟩ : ∃ D, wc.drew = D := ⟨_, rfl⟩
                  have HTD := Lib.hid (show TrAt k w b1 b2 ns us n X cx (some ay) cy D by rw [← hD]; exact HT.out.below (Below.refl _ _).drew)
                  have c2 := HTD.out.box.cell 2
                  simp only [List.getElem?_cons_zero, List.getElem?_cons_succ] at c2
                  have hb1l := HTD.out.box.lt
                  have HPK := Lib.hid (fun V (hb : Below D.heap.size D V) => pick_any k.A3 k.n3 k.c3 w.heap.size k.gs i V (HTD.out.ok.gs_.below (hb.mono HTD.out.bel.size)) (by omega) (by omega))
                  generalize pickF k.gs i = vg at *
                  obtain ⟨gb, hgb⟩ : ∃ gb, (bits BinOp.and IntKind.i64 vg 1 == 1) = gb := ⟨_, rfl⟩
                  have hcv1 := HCV.out (D.alloc (.cells #[.int .u8 (97 + (j : Int))] 5)) D.heap.size (Blk.mk (heap_alloc_new D _))
                  have hcv2 := HCV.out ((D.alloc (.cells #[.slice none 0 0, .string ⟨#[]⟩, .bool false, .slice none 0 0] 28)).alloc (.cells #[.int .u8 (97 + (j : Int))] 5)) (D.heap.size + 1) (by
                    have h := heap_alloc_new (D.alloc (.cells #[.slice none 0 0, .string ⟨#[]⟩, .bool false, .slice none 0 0] 28)) (.cells #[.int .u8 (97 + (j : Int))] 5)
                    rw [show (D.alloc (.cells #[.slice none 0 0, .string ⟨#[]⟩, .bool false, .slice none 0 0] 28)).heap.size = D.heap.size + 1 by simp] at h
                    exact Blk.mk h)
                  have hcv3 := HCV.out ((D.alloc (.cells #[.int .u8 (97 + (j : Int))] 5)).alloc (.cells #[.slice none 0 0, .string ⟨#[]⟩, .bool false, .slice none 0 0] 28)) D.heap.size ((Blk.mk (heap_alloc_new D _)).alloc _)
                  have hw97 : IntKind.i64.wrap (97 + (j : Int)) = 97 + j := by rw [IntKind.wrap_i64]; omega
                  clear HT HCV
                  go_region_law (first
                    | (have tk := tokA; go_simp; go_at_call 19; (with_reducible refine (HPK.out _ (by first | exact Below.refl _ _ | exact (Below.refl _ _).alloc (Nat.le_refl _) _ | exact ((Below.refl _ _).alloc (Nat.le_refl _) _).alloc (by simp) _)).mono ?_); rintro e wq ⟨rfl, rfl⟩; clear tokA tk)
                    | fail)
                  all_goals
                    clear hcv1 hcv2 hcv3 hc97 hw97 hmod c2
                    go_wp2_with fail
                    go_meet
                    first
                      | exact ⟨_, gb, rfl, (by have h1 := HTD.out.res.lt; omega), (fun g hg => by have h2 := (HTD.out.nodes.lt g hg).2; omega), node_blk1 D _ [.slice none 0 0, .string nm, .bool gb, .slice none 0 0], HTD.out.below (((Below.refl _ D).alloc (Nat.le_refl _) _).alloc (by simp) _)⟩
                      | exact ⟨_, gb, rfl, (by have h1 := HTD.out.res.lt; omega), (fun g hg => by have h2 := (HTD.out.nodes.lt g hg).2; omega), node_blk2 D _ [.slice none 0 0, .string nm, .bool gb, .slice none 0 0], HTD.out.below (((Below.refl _ D).alloc (Nat.le_refl _) _).alloc (by simp) _)⟩
                      | exact ⟨_, gb, rfl, (by have h1 := HTD.out.res.lt; omega), (fun g hg => by have h2 := (HTD.out.nodes.lt g hg).2; omega), (((((Blk.mk (heap_alloc_new D _) : Blk _ D.heap.size 28 [.slice none 0 0, .string ⟨#[]⟩, .bool false, .slice none 0 0]).alloc _).set 0 (.slice none 0 0)).set 1 (.string nm)).set 2 (.bool gb)).set 3 (.slice none 0 0), HTD.out.below ((((((Below.refl _ D).alloc (Nat.le_refl _) _).alloc (by simp) _).setCell (p := ⟨D.heap.size, 0, none⟩) (Nat.le_refl _) _).setCell (p := ⟨D.heap.size, 1, none⟩) (Nat.le_refl _) _).setCell (p := ⟨D.heap.size, 2, none⟩) (Nat.le_refl _) _ |>.setCell (p := ⟨D.heap.size, 3, none⟩) (Nat.le_refl _) _)⟩
                      | (trace_state; sorry)
                case rest =>
                  obtain ⟨b8, gb, rfl, hb8, hx8, hblk, hat⟩ := hcut
                  have HX8 := Lib.hid hx8
                  have HT2 := Lib.hid hat
                  have HB8 := Lib.hid hblk
                  clear hat hblk HT HCV hc97 hmod hx8
                  have HNS := Lib.hid (show nm.size ≤ 9223372036854775807 by have := (wordF_size HNM.out).2; omega)
                  obtain ⟨bb, hbb⟩ : ∃ bb, (bits BinOp.and IntKind.i64 v 3 == 3) = bb := ⟨_, rfl⟩
                  have hbb2 : (bits BinOp.and IntKind.i64 v 3 != 3) = !bb := by rw [← hbb]; rfl
                  go_upto_if 60 with fail
                  clear hbb hbb2
                  go_cut [] (fun wx => ∃ (A5 : Option Addr) (lm c5 : Nat) (ms : List Mtc), Blk wx b8 28 [.slice A5 lm c5, .string nm, .bool gb, .slice none 0 0] ∧ NodeAt w.heap.size (.mk (.slice A5 lm c5) ms nm gb (.slice none 0 0) []) wx ∧ TrAt k w b1 b2 ns us n X cx (some ay) cy wx)
                  case first => --done
                    cases bb with
                    | true =>
                      go_wp2_with fail
                      go_meet
                      exact ⟨none, 0, 0, [], HB8.out, ⟨rfl, ⟨HNM.out, (show rightM [] = true by decide), (fun z hz => absurd hz List.not_mem_nil), HNS.out⟩, .inl ⟨rfl, rfl⟩⟩, HT2.out⟩
                    | false =>
                      obtain ⟨q4, hq4⟩ : ∃ q, v.tdiv 4 = q := ⟨_, rfl⟩
                      obtain ⟨q16, hq16⟩ : ∃ q, v.tdiv 16 = q := ⟨_, rfl⟩
                      have hi4 : I64 q4 := by rw [← hq4]; exact I64_tdiv HPI.out (by decide)
                      have hi16 : I64 q16 := by rw [← hq16]; exact I64_tdiv HPI.out (by decide)
                      obtain ⟨ha1, ha2⟩ := nWithin_in q4 (lo := 0) (hi := 2) (by omega)
                      obtain ⟨hc1, hc2⟩ := nWithin_in q16 (lo := 0) (hi := 3) (by omega)
                      obtain ⟨hd1, hd2⟩ := nWithin_in v (lo := 1) (hi := 4) (by omega)
                      have HW4 := Lib.hid (fun V => within_any q4 0 2 V hi4 (by omega) (by omega) (by omega))
                      have HW16 := Lib.hid (fun V => within_any q16 0 3 V hi16 (by omega) (by omega) (by omega))
                      have HWV := Lib.hid (fun V => within_any v 1 4 V HPI.out (by omega) (by omega) (by omega))
                      generalize nWithin q4 0 2 = a at *
                      generalize nWithin q16 0 3 = c at *
                      generalize nWithin v 1 4 = kd at *
                      obtain ⟨a, rfl⟩ := Int.eq_ofNat_of_zero_le ha1
                      obtain ⟨c, rfl⟩ := Int.eq_ofNat_of_zero_le hc1
                      have ha3 : a < 3 := by omega
                      have hc4 : c < 4 := by omega
                      have HMO := Lib.hid (mtc_ok ha3 hc4 hd1 hd2)
                      have w4 : IntKind.i64.wrap q4 = q4 := by unfold I64 at hi4; rw [IntKind.wrap_i64]; omega
                      have w16 : IntKind.i64.wrap q16 = q16 := by unfold I64 at hi16; rw [IntKind.wrap_i64]; omega
                      go_upto_region 12 with fail
                      obtain ⟨D, hD⟩ : ∃ D, wc.drew = D := ⟨_, rfl⟩
                      have HTD := Lib.hid (show TrAt k w b1 b2 ns us n X cx (some ay) cy D by rw [← hD]; exact HT2.out.below (Below.refl _ _).drew)
                      have HBD := Lib.hid (show Blk D b8 28 [.slice none 0 0, .string nm, .bool gb, .slice none 0 0] by rw [← hD]; exact HB8.out)
                      have tok1 : True := trivial
                      have tok2 : True := trivial
                      have tok3 : True := trivial
                      have tok4 : True := trivial
                      have tok5 : True := trivial
                      have za1 : (0 : Int) ≤ a := by omega
                      have za2 : (a : Int) < 4 := by omega
                      have zc1 : (0 : Int) ≤ c := by omega
                      have zc2 : (c : Int) < 8 := by omega
                      clear HT2 HB8
                      go_region_law (first
                        | (have tk := tok1; go_simp; go_at_call 20; (with_reducible refine (names_any _).mono ?_); rintro e wn ⟨rfl, hwn⟩; have HBN := Lib.hid (show Below D.heap.size D wn from (by rw [← hwn]; exact (Below.refl _ _).alloc (Nat.le_refl _) _)); have HNN := Lib.hid (show Blk wn D.heap.size 9 (strs keepNames) from (by rw [← hwn]; exact Blk.mk (heap_alloc_new D _))); have e66 := name_cell HNN.out ha3; generalize keepNames.getD a ⟨#[]⟩ = na at *; clear tok1 tk hwn)
                        | (have tk := tok2; go_simp; go_at_call 17; (with_reducible refine (HW4.out _).mono ?_); rintro e wz ⟨rfl, rfl⟩; clear tok2 tk HW4)
                        | (have tk := tok3; go_simp; go_at_call 21; (with_reducible refine (values_any _).mono ?_); rintro e wv ⟨rfl, hwv⟩; have HBV := Lib.hid (show Below wn.heap.size wn wv from (by rw [← hwv]; exact (Below.refl _ _).alloc (Nat.le_refl _) _)); have HVV := Lib.hid (show Blk wv wn.heap.size 9 (strs keepValues) from (by rw [← hwv]; exact Blk.mk (heap_alloc_new wn _))); have e66' := (HBV.out.cell (p := ⟨D.heap.size, a, none⟩) HNN.out.lt).trans e66; have e72 := value_cell HVV.out hc4; generalize keepValues.getD c ⟨#[]⟩ = va at *; have hb9 := ((HBD.out.below (HBN.out) HBD.out.lt).below HBV.out (HBD.out.below (HBN.out) HBD.out.lt).lt).alloc (.cells #[.string na, .string va, .int .i64 kd] 24); have f8 := hb9.frozen 0; have c8 := hb9.cell 0; simp only [List.getElem?_cons_zero] at c8; have HB9 := Lib.hid hb9; clear tok3 tk hwv hb9)
                        | (have tk := tok4; go_simp; go_at_call 17; (with_reducible refine (HW16.out _).mono ?_); rintro e wz ⟨rfl, rfl⟩; clear tok4 tk HW16)
                        | (have tk := tok5; go_simp; go_at_call 17; (with_reducible refine (HWV.out _).mono ?_); rintro e wz ⟨rfl, rfl⟩; clear tok5 tk HWV)
                        | fail)
                      all_goals
                        have HTW := Lib.hid ((HTD.out.below HBN.out).below HBV.out)
                        have HTZ := Lib.hid ((HTW.out.below ((Below.refl _ wv).alloc (Nat.le_refl _) (.cells #[.string na, .string va, .int .i64 kd] 24))).setR (i := 0) HB9.out hb8 HX8.out (.slice (some ⟨wv.heap.size, 0, none⟩) 1 1))
                        have hne : wv.heap.size ≠ b8 := by have h1 := (HBD.out.below HBN.out HBD.out.lt).lt; have h2 := HBV.out.size; omega
                        have HNZ := Lib.hid (show NodeAt w.heap.size (.mk (.slice (some ⟨wv.heap.size, 0, none⟩) 1 1) [(na, va, kd)] nm gb (.slice none 0 0) []) ((wv.alloc (.cells #[.string na, .string va, .int .i64 kd] 24)).setCell ⟨b8, 0, none⟩ (.slice (some ⟨wv.heap.size, 0, none⟩) 1 1)) from ⟨rfl, ⟨HNM.out, HMO.out.1, HMO.out.2, HNS.out⟩, .inr ⟨_, (na, va, kd), HTW.out.bel.size, rfl, rfl, (Blk.mk (heap_alloc_new wv _) : Blk _ wv.heap.size 24 [.string na, .string va, .int .i64 kd]).far hne _⟩⟩)
                        have HBZ := Lib.hid (HB9.out.set 0 (.slice (some ⟨wv.heap.size, 0, none⟩) 1 1))
                        clear HTW HTD HBD HBN HBV HNN HVV HB9 e66 e66' e72 c8 f8
                        go_wp2_with fail
                        go_meet
                        exact ⟨some ⟨wv.heap.size, 0, none⟩, 1, 1, [(na, va, kd)], HBZ.out, HNZ.out, HTZ.out⟩
                  case rest =>
                    obtain ⟨A5, lm, c5, ms, hblk, hnode, hat⟩ := hcut
                    have HT := Lib.hid hat
                    have HBK := Lib.hid hblk
                    have HNO := Lib.hid hnode
                    clear hat hblk hnode HT2 HB8
                    have d0 := HBK.out.cell 0
                    have d1 := HBK.out.cell 1
                    have d2 := HBK.out.cell 2
                    have d3 := HBK.out.cell 3
                    simp only [List.getElem?_cons_zero, List.getElem?_cons_succ] at d0 d1 d2 d3
                    have HA := Lib.hid (HT.out.below ((Below.refl _ wc).alloc (Nat.le_refl _) (.cells #[.slice A5 lm c5, .string nm, .bool gb, .slice none 0 0] 28)))
                    have HQ := Lib.hid (HNO.out.below ((Below.refl _ wc).alloc (Nat.le_refl _) (.cells #[.slice A5 lm c5, .string nm, .bool gb, .slice none 0 0] 28)))
                    have HX1 := Lib.hid (show Sees (wc.alloc (.cells #[.slice A5 lm c5, .string nm, .bool gb, .slice none 0 0] 28)) (wc.alloc (.cells #[.slice A5 lm c5, .string nm, .bool gb, .slice none 0 0] 28)).heap.size 4 (some ⟨wc.heap.size, 0, none⟩) 1 [.slice A5 lm c5, .string nm, .bool gb, .slice none 0 0] from (Blk.mk (heap_alloc_new wc _) : Blk _ wc.heap.size 28 [.slice A5 lm c5, .string nm, .bool gb, .slice none 0 0]).sees rfl (List.prefix_refl _))
                    have hres := HA.out.res.lt
                    go_wp2_with (at_builtin; refine wpList_append_at rfl (.tmp 78) (.tmp 80) 26 rfl (b2 + 1) 28 i0 (.agg #[.slice none 0 0, .string ⟨#[]⟩, .bool false, .slice none 0 0]) 4 72 Try.underlying26 hi0 hz0 hz1 hz2 rfl (by decide) (.slice X n cx) n (quad (ns.map RT.cells)) rfl HA.out.nodes _ _ 1 1 [.slice A5 lm c5, .string nm, .bool gb, .slice none 0 0] rfl HX1.out (quad_one4 _ _ _ _) (by unfold maxLen; omega) (by omega) hres ?_)
                    intro v3 w3 hown3 hgr3 hwh3
                    obtain ⟨X3, cx3, rfl, _, _⟩ := own_slice hown3
                    have HO3 := Lib.hid hown3
                    have HG3 := Lib.hid hgr3
                    have HU3 := Lib.hid (own_below (own_grown HA.out.under hgr3 (own_ne HA.out.under HA.out.nodes (by decide))) ((Below.refl w3.heap.size w3).alloc (Nat.le_refl _) (.cells #[.int .i64 p2] 3)) (Nat.le_refl _))
                    have HX2 := Lib.hid (show Sees (w3.alloc (.cells #[.int .i64 p2] 3)) (w3.alloc (.cells #[.int .i64 p2] 3)).heap.size 1 (some ⟨w3.heap.size, 0, none⟩) 1 [.int .i64 p2] from (Blk.mk (heap_alloc_new w3 _) : Blk _ w3.heap.size 3 [.int .i64 p2]).sees rfl (List.prefix_refl _))
                    have hs3 : b2 + 1 ≤ (w3.alloc (.cells #[.int .i64 p2] 3)).heap.size := Nat.le_trans (Nat.succ_le_of_lt HA.out.res.lt) (Nat.le_trans hgr3.size (by rw [show (w3.alloc (.cells #[.int .i64 p2] 3)).heap.size = w3.heap.size + 1 by simp]; exact Nat.le_succ _))
                    clear hown3 hgr3 hwh3 d0 d1 d2 d3 HBK HX1
                    go_wp2_with (at_builtin; refine wpList_append_at rfl (.tmp 82) (.tmp 84) 37 rfl (b2 + 1) 3 j0 (.int .i64 0) 1 8 Try.underlying37 hj0 jz0 jz1 jz2 rfl (by decide) (.slice (some ay) n cy) n (ints us) rfl HU3.out _ _ 1 1 [.int .i64 p2] rfl HX2.out (by simp [Value.oneCell']) (by unfold maxLen; omega) (by omega) hs3 ?_)
                    intro v4 w4 hown4 hgr4 hwh4
                    obtain ⟨Y4, cy4, rfl, _, _⟩ := own_slice hown4
                    have HZ := Lib.hid (HA.out.next HQ.out HO3.out HG3.out hown4 hgr4 hp2 HZ2.out)
                    clear hown4 hgr4 hwh4 HU3 HX2 HO3 HG3 HA HQ hs3
                    go_wp2_with fail
                    go_roundg g
                    case measure => omega
                    case rel => exact ⟨i + 1, n + 1, _, _, X3, cx3, Y4, cy4, by omega, by go_num, Lib.hid (by have := HN.out; omega), rfl, rfl, HZ.out⟩
  case rest =>
    obtain ⟨n, ns, us, X, cx, Y, cy, h9, rfl, rfl, hat⟩ := hcut
    have HT := Lib.hid hat
    clear hat HT1
    have HK1 := Lib.hid (show HasK wc (.slice X n cx) ns from by
      have hl := HT.out.len1
      subst hl
      obtain ⟨X', cx', h1, h2, h3⟩ := own_slice HT.out.nodes
      injection h1 with h1 _ h4; subst h1; subst h4
      exact ⟨X, cx, rfl, Sees.of_own HT.out.nodes, h2, h3⟩)
    have h0n : 0 < n := by have h1 := HT.out.len1; obtain ⟨h2, _⟩ := HT.out.first; omega
    have hfar : ∀ q ∈ ns, FarS (fun b => b = b2 ∨ b < w.heap.size ∨ wc.heap.size ≤ b) (fun W => HasM W q.mv q.ms) wc := fun q hq => by
      have hat := HT.out.at_ q hq
      intro V hs hk
      obtain ⟨h0, h1, h2 | ⟨g, m, hlo, h3, h4, h5⟩⟩ := hat
      · exact NodeAt.hasM (lo := w.heap.size) ⟨h0, h1, .inl h2⟩
      · refine NodeAt.hasM (lo := w.heap.size) ⟨h0, h1, .inr ⟨g, m, hlo, h3, h4, ?_⟩⟩
        exact (hk g h5.lt (fun e => by
          rcases e with e | e | e
          · subst e
            have h6 := h5.eq.symm.trans HT.out.res.eq
            injection h6 with h6; injection h6 with _ h6
            exact absurd h6 (by decide)
          · omega
          · have := h5.lt; omega)).trans h5
    have hgc := grow_any ns us X Y n cx cy (fun b => b = b2 ∨ b < w.heap.size ∨ wc.heap.size ≤ b) HT.out.len1 HT.out.len2 (by omega) (fun q hq => (HT.out.at_ q hq).1) 3 0 wc HT.out.u.dep h0n HK1.out (Sees.of_own HT.out.under) hfar (fun b hb => .inr (.inr hb))
    rw [show ((0 : Nat) : Int) = 0 from rfl] at hgc
    have HGC := Lib.hid hgc
    have HRT := Lib.hid (fun r (hr : GrT ns us 3 0 r) => GrT.rightT (fun q hq => (HT.out.at_ q hq).2.1) HT.out.first HT.out.u (by rw [HT.out.len2]; exact h9) hr)
    clear HK1 hgc hfar
    go_wp2_with fail
    (with_reducible refine HGC.out.mono ?_); rintro e wz ⟨r, he, hgt, hfs, hbz⟩
    obtain ⟨A7, c7, A8, c8, hv7, hv8⟩ := okAt_form hfs.now
    have hval : r.val = .agg #[.slice A7 r.ms.length c7, .string r.nm, .bool r.goes, .slice A8 r.kids.length c8] := by unfold RT.val; rw [hv7, hv8]
    rw [hval] at he
    subst he
    have HVL := Lib.hid hval
    have HTZ := Lib.hid (HT.out.below hbz)
    have HRR := Lib.hid (HRT.out r hgt)
    have HFS := Lib.hid hfs
    have hb2l := HT.out.res.lt
    clear hgt hfs hbz hv7 hv8 hval HT HGC HRT
    generalize hm7 : r.ms.length = m7 at *
    generalize hm8 : r.kids.length = m8 at *
    generalize hqn : r.nm = qn at *
    generalize hqg : r.goes = qg at *
    clear hm7 hm8 hqn hqg
    have q0 := HTZ.out.res.cell 0
    have q1 := HTZ.out.res.cell 1
    have q2 := HTZ.out.res.cell 2
    have q3 := HTZ.out.res.cell 3
    simp only [List.getElem?_cons_zero, List.getElem?_cons_succ] at q0 q1 q2 q3
    have f0 := HTZ.out.res.frozen 0
    have f1 := HTZ.out.res.frozen 1
    have f2 := HTZ.out.res.frozen 2
    have f3 := HTZ.out.res.frozen 3
    have hlt := HTZ.out.lt
    have hle : w.heap.size ≤ b2 := by omega
    have HRS := Lib.hid ((((HTZ.out.res.set 0 (.slice A7 m7 c7)).set 1 (.string qn)).set 2 (.bool qg)).set 3 (.slice A8 m8 c8))
    have HBZ := Lib.hid ((((HTZ.out.bel.setCell (p := ⟨b2, 0, none⟩) hle (.slice A7 m7 c7)).setCell (p := ⟨b2, 1, none⟩) hle (.string qn)).setCell (p := ⟨b2, 2, none⟩) hle (.bool qg)).setCell (p := ⟨b2, 3, none⟩) hle (.slice A8 m8 c8))
    have hwc : w.heap.size ≤ wc.heap.size := by omega
    have HOK := Lib.hid (show FarS (fun b => b < w.heap.size) (okAt 3 r) ((((wz.setCell ⟨b2, 0, none⟩ (.slice A7 m7 c7)).setCell ⟨b2, 1, none⟩ (.string qn)).setCell ⟨b2, 2, none⟩ (.bool qg)).setCell ⟨b2, 3, none⟩ (.slice A8 m8 c8)) from HFS.out.next (by simp [World.setCell]) (fun b hb hn => by
      have hne : b ≠ b2 := fun e => hn ⟨.inl e, by omega⟩
      rw [Below.heap_setCell _ ⟨b2, 3, none⟩ _ b hne, Below.heap_setCell _ ⟨b2, 2, none⟩ _ b hne, Below.heap_setCell _ ⟨b2, 1, none⟩ _ b hne, Below.heap_setCell _ ⟨b2, 0, none⟩ _ b hne]) (fun b hb hS => ⟨.inr (.inl hS), by omega⟩))
    clear hwc
    clear HFS hlt hle
    go_wp2_with fail
    have s0 := HRS.out.cell 0
    have s1 := HRS.out.cell 1
    have s2 := HRS.out.cell 2
    have s3 := HRS.out.cell 3
    simp only [List.set_cons_zero, List.set_cons_succ, List.getElem?_cons_zero, List.getElem?_cons_succ] at s0 s1 s2 s3
    generalize (((wz.setCell ⟨b2, 0, none⟩ (.slice A7 m7 c7)).setCell ⟨b2, 1, none⟩ (.string qn)).setCell ⟨b2, 2, none⟩ (.bool qg)).setCell ⟨b2, 3, none⟩ (.slice A8 m8 c8) = WZ at *
    refine bodyPost_ret (v := .agg #[.slice A7 m7 c7, .string qn, .bool qg, .slice A8 m8 c8]) (by simp [results, Try.results11, go_sem, s0, s1, s2, s3]) rfl ⟨r, by rw [HVL.out], HOK.out, HRR.out.1, HRR.out.2.1, HRR.out.2.2, HBZ.out⟩
theorem tree_any (k : KTree) (w : World) (h : k.ok w.heap.size w) : Calls Try.prog 11 #[k.val] w (TreeAns w) :=
  (tree_far k w h).mono fun e w' ⟨r, h1, h2, h3⟩ => ⟨r, h1, h2.now, h3⟩
end Go.Proofs.Ytddkkfjgdfdcnaa
