/- expr.reader: what it goes through, as plain functions; peek, fail, is, take, must, skip. -/
import Derived.Test.YtnkbpcenkbihpaaDoorLex7
import Derived.Test.YtnkbpcenkbihpaaDoorBase
import Derived.Deep.CutBlock
import Derived.Deep.DeepCutAuto
namespace Go.Proofs.YtnkbpcenkbihpaaDoor
open Go.ChangeShapes Go.WideShapes Go.ChangeAt Go.RowKit
set_option linter.unusedVariables false
set_option linter.unusedSimpArgs false
set_option maxRecDepth 100000
/-- Where a reader is: the next token, its fault's place, its fault. -/
structure PS where
  p : Nat
  fa : Int
  fe : Int
def zeroT : Tok := ⟨0, 0, 0, ⟨#[]⟩⟩
def Tok.same (t : Tok) (kd : Int) (tx : ByteArray) : Bool := decide (t.kd = kd) && decide (t.tx = tx)
def peekF (ts : List Tok) (s : PS) : Tok := if s.fe = 0 then (ts[s.p]?).getD zeroT else zeroT
def failF (ts : List Tok) (en : Int) (s : PS) (err : Int) : PS := if s.fe = 0 then ⟨s.p, match ts[s.p]? with | some t => t.at_ | none => en, err⟩ else s
def isF (ts : List Tok) (s : PS) (kd : Int) (tx : ByteArray) : Bool := (peekF ts s).same kd tx
def nextF (s : PS) : PS := ⟨s.p + 1, s.fa, s.fe⟩
def takeF (ts : List Tok) (en : Int) (s : PS) (kd : Int) : Tok × PS := if (peekF ts s).kd = kd then (peekF ts s, nextF s) else (zeroT, failF ts en s 1)
def mustF (ts : List Tok) (en : Int) (s : PS) (kd : Int) (tx : ByteArray) : PS := if isF ts s kd tx = true then nextF s else failF ts en s 1
def skipF (ts : List Tok) (s : PS) (kd : Int) (tx : ByteArray) : Bool × PS := if isF ts s kd tx = true then (true, nextF s) else (false, s)
/-- Blocks other than this one are as they were. -/
structure Only (b : Nat) (w w' : World) : Prop where
  size : w.heap.size ≤ w'.heap.size
  os : w'.os = w.os
  tape : w'.tape = w.tape
  output : w'.output = w.output
  block : ∀ k, k < w.heap.size → k ≠ b → w'.heap[k]? = w.heap[k]?
theorem Only.refl (b : Nat) (w : World) : Only b w w := ⟨Nat.le_refl _, rfl, rfl, rfl, fun _ _ _ => rfl⟩
theorem Only.trans {b : Nat} {w w' w2 : World} (h : Only b w w') (k : Only b w' w2) : Only b w w2 :=
  ⟨Nat.le_trans h.size k.size, k.os.trans h.os, k.tape.trans h.tape, k.output.trans h.output, fun q hq hn => (k.block q (Nat.lt_of_lt_of_le hq h.size) hn).trans (h.block q hq hn)⟩
theorem Only.of_below {b : Nat} {w w' : World} (h : Below w.heap.size w w') : Only b w w' := ⟨h.size, h.os, h.tape, h.output, fun q hq _ => h.block q hq⟩
theorem Only.alloc {b : Nat} {w w' : World} (h : Only b w w') (o : Obj) : Only b w (w'.alloc o) := h.trans (Only.of_below ((Below.refl _ _).alloc (Nat.le_refl _) o))
theorem Only.drew {b : Nat} {w w' : World} (h : Only b w w') : Only b w w'.drew := h.trans (Only.of_below (Below.refl _ _).drew)
theorem Only.set {b : Nat} {w w' : World} (h : Only b w w') (i : Nat) (u : Value) : Only b w (w'.setCell ⟨b, i, none⟩ u) := by
  have h1 : w'.grownBy (w'.setCell ⟨b, i, none⟩ u) (some b) := only_setCell (World.grownBy.refl w' (some b)) (p := ⟨b, i, none⟩) (.inl rfl) u
  exact h.trans ⟨h1.size, rfl, rfl, rfl, fun q hq hn => h1.block q hq (fun e => hn (by injection e))⟩
theorem FarS.only {S : Nat → Prop} {P : World → Prop} {b : Nat} {w w' : World} (h : FarS S P w) (hb : S b) (ho : Only b w w') : FarS S P w' :=
  h.next ho.size (fun q hq hn => ho.block q hq (fun e => hn (e ▸ hb))) (fun _ _ hS => hS)
/-- A reader at this place. -/
structure RdAt (b : Nat) (A : Option Addr) (n c : Nat) (ts : List Tok) (en : Int) (s : PS) (w : World) : Prop where
  blk : Blk w b 84 [.slice A n c, .int .i64 s.p, .int .i64 en, .int .i64 s.fa, .int .i64 s.fe]
  row : FarS (fun q => q = b) (fun W => Sees W W.heap.size 4 A n (tcells ts)) w
  le : s.p ≤ n
section
variable {b n c : Nat} {A : Option Addr} {ts : List Tok} {en : Int} {s s' : PS} {w w' : World}
theorem RdAt.below (h : RdAt b A n c ts en s w) (hb : Below w.heap.size w w') : RdAt b A n c ts en s w' := ⟨h.blk.below hb h.blk.lt, h.row.below hb, h.le⟩
theorem RdAt.alloc (h : RdAt b A n c ts en s w) (o : Obj) : RdAt b A n c ts en s (w.alloc o) := h.below ((Below.refl _ _).alloc (Nat.le_refl _) o)
theorem RdAt.len (h : RdAt b A n c ts en s w) : ts.length = n := by have := h.row.now.len; rw [tcells_length] at this; omega
theorem RdAt.cells (h : RdAt b A n c ts en s w) : w.cell? ⟨b, 0, none⟩ = some (.slice A n c) ∧ w.cell? ⟨b, 1, none⟩ = some (.int .i64 s.p) ∧ w.cell? ⟨b, 2, none⟩ = some (.int .i64 en) ∧ w.cell? ⟨b, 3, none⟩ = some (.int .i64 s.fa) ∧ w.cell? ⟨b, 4, none⟩ = some (.int .i64 s.fe) :=
  ⟨h.blk.cell 0, h.blk.cell 1, h.blk.cell 2, h.blk.cell 3, h.blk.cell 4⟩
theorem RdAt.next (h : RdAt b A n c ts en s w) (hp : s.p < n) : RdAt b A n c ts en (nextF s) (w.setCell ⟨b, 1, none⟩ (.int .i64 ((s.p : Int) + 1))) := by
  refine ⟨?_, h.row.only rfl ((Only.refl b w).set 1 _), hp⟩
  have h1 := h.blk.set 1 (.int .i64 ((s.p : Int) + 1))
  have e : ((nextF s).p : Int) = (s.p : Int) + 1 := by unfold nextF; simp
  rw [e]; exact h1
theorem RdAt.fault (h : RdAt b A n c ts en s w) (a e : Int) : RdAt b A n c ts en ⟨s.p, a, e⟩ ((w.setCell ⟨b, 3, none⟩ (.int .i64 a)).setCell ⟨b, 4, none⟩ (.int .i64 e)) :=
  ⟨(h.blk.set 3 (.int .i64 a)).set 4 (.int .i64 e), h.row.only rfl (((Only.refl b w).set 3 _).set 4 _), h.le⟩
end
set_option maxHeartbeats 2000000 in
theorem peek_any (b : Nat) (A : Option Addr) (n c : Nat) (ts : List Tok) (en : Int) (s : PS) (w : World) (h : RdAt b A n c ts en s w) :
    Calls Tryd.prog 66 #[.pointer (some ⟨b, 0, none⟩)] w fun e w' => e = .returned (peekF ts s).val ∧ Below w.heap.size w w' := by
  have HR := Lib.hid (h.alloc (.cells #[.int .i64 0, .int .i64 0, .int .i64 0, .string ⟨#[]⟩] 43))
  have HB := Lib.hid ((Below.refl w.heap.size w).alloc (Nat.le_refl _) (.cells #[.int .i64 0, .int .i64 0, .int .i64 0, .string ⟨#[]⟩] 43))
  have HK := Lib.hid (Blk.mk (heap_alloc_new w (.cells #[.int .i64 0, .int .i64 0, .int .i64 0, .string ⟨#[]⟩] 43)) : Blk _ w.heap.size 43 [.int .i64 0, .int .i64 0, .int .i64 0, .string ⟨#[]⟩])
  have HL := Lib.hid h.len
  have HG := Lib.hid (show ∃ g, w.heap.size = g from ⟨_, rfl⟩)
  clear h
  go_enter Tryd.func66, Tryd.ntmps66
  go_upto_region 1 with fail
  obtain ⟨g2, hg2'⟩ := HG.out
  rw [hg2']
  have HGE := Lib.hid hg2'
  clear HG hg2'
  generalize w.alloc (.cells #[.int .i64 0, .int .i64 0, .int .i64 0, .string ⟨#[]⟩] 43) = W1 at *
  rw [HGE.out] at HK
  by_cases hfe : s.fe = 0
  · have hf : (s.fe != 0) = false := by rw [hfe]; rfl
    obtain ⟨gb, hgb⟩ : ∃ g, decide (n ≤ s.p) = g := ⟨_, rfl⟩
    have hg1 := hgb
    have hg2 : decide ((n : Int) ≤ s.p) = gb := by rw [← hgb]; exact decide_eq_decide.2 (by omega)
    have HGB := Lib.hid hgb
    have HFE := Lib.hid hfe
    clear hgb hfe
    refine wp_region_facts (R := fun a b => Below a.heap.size a b) (G := (fun W => RdAt b A n c ts en s W ∧ Blk W g2 43 [.int .i64 0, .int .i64 0, .int .i64 0, .string ⟨#[]⟩] ∧ Below w.heap.size w W)) (V := fun i' u' W => match i' with | 0 => u' = .pointer (some ⟨b, 0, none⟩) | 1 => u' = .pointer (some ⟨b, 0, none⟩) | 2 => u' = .pointer (some ⟨b, 3, none⟩) | 3 => u' = .pointer (some ⟨b, 4, none⟩) | 4 => u' = .int .i64 s.fe | 5 => u' = .bool false | 6 => u' = .bool false | 7 => u' = .pointer (some ⟨b, 0, none⟩) | 8 => u' = .pointer (some ⟨b, 0, none⟩) | 9 => u' = .pointer (some ⟨b, 1, none⟩) | 10 => u' = .int .i64 s.p | 11 => u' = .pointer (some ⟨b, 0, none⟩) | 12 => u' = .pointer (some ⟨b, 0, none⟩) | 13 => u' = .pointer (some ⟨b, 0, none⟩) | 14 => u' = .slice A n c | 15 => u' = .int .i64 n | 16 => u' = .bool gb | 17 => u' = .bool gb | _ => True) (by kernel_rfl) (fun w => Below.refl _ _) (fun a b c h1 h2 => h1.trans (h2.mono h1.size)) (by kernel_rfl) (by kernel_rfl) ?hG ⟨?o0, ?o1, ?o2, ?o3, ?o4, ?o5, ?o6, ?o7, ?o8, ?o9, ?o10, ?o11, ?o12, ?o13, ?o14, ?o15, ?o16, ?o17, trivial⟩ ?hend
    case o0 =>
      intro a w hfr hG hd
      refine ⟨fun hw => ?_, fun hw => absurd hw (by simp [Region.wanted])⟩
      have s0 : a.tmps.getD 0 undef = .pointer (some ⟨b, 0, none⟩) := hfr.at 0 (by kernel_rfl)
      refine op_yields (.pointer (some ⟨b, 0, none⟩)) ?_ ?_ ?_
      · simp only [execOp, resolve, List.map_toArray, List.map_cons, List.map_nil, Act.eval, s0]; simp [go_sem, -Array.getD_eq_getD_getElem?, s0]
      · exact Below.refl _ _
      · exact (fun _ _ => rfl)
    case o1 =>
      intro a w hfr hG hd
      obtain ⟨d0, _⟩ := hd
      refine ⟨fun hw => ?_, fun hw => absurd hw (by simp [Region.wanted])⟩
      have s3 : a.tmps.getD 3 undef = .pointer (some ⟨b, 0, none⟩) := (d0 rfl).now
      refine op_yields (.pointer (some ⟨b, 0, none⟩)) ?_ ?_ ?_
      · simp only [execOp, resolve, List.map_toArray, List.map_cons, List.map_nil, Act.eval, s3]; simp [go_sem, -Array.getD_eq_getD_getElem?, s3]
      · exact Below.refl _ _
      · exact (fun _ _ => rfl)
    case o2 =>
      intro a w hfr hG hd
      obtain ⟨d0, _⟩ := hd
      refine ⟨fun hw => ?_, fun hw => absurd hw (by simp [Region.wanted])⟩
      have s4 : a.tmps.getD 4 undef = .pointer (some ⟨b, 0, none⟩) := (d0 rfl).now
      refine op_yields (.pointer (some ⟨b, 3, none⟩)) ?_ ?_ ?_
      · simp only [execOp, resolve, List.map_toArray, List.map_cons, List.map_nil, Act.eval, s4]; simp [go_sem, -Array.getD_eq_getD_getElem?, s4]
      · exact Below.refl _ _
      · exact (fun _ _ => rfl)
    case o3 =>
      intro a w hfr hG hd
      obtain ⟨d0, _⟩ := hd
      refine ⟨fun hw => ?_, fun hw => absurd hw (by simp [Region.wanted])⟩
      have s5 : a.tmps.getD 5 undef = .pointer (some ⟨b, 3, none⟩) := (d0 rfl).now
      refine op_yields (.pointer (some ⟨b, 4, none⟩)) ?_ ?_ ?_
      · simp only [execOp, resolve, List.map_toArray, List.map_cons, List.map_nil, Act.eval, s5]; simp [go_sem, -Array.getD_eq_getD_getElem?, s5]
      · exact Below.refl _ _
      · exact (fun _ _ => rfl)
    case o4 =>
      intro a w hfr hG hd
      obtain ⟨d0, _⟩ := hd
      refine ⟨fun hw => ?_, fun hw => absurd hw (by simp [Region.wanted])⟩
      have s6 : a.tmps.getD 6 undef = .pointer (some ⟨b, 4, none⟩) := (d0 rfl).now
      obtain ⟨r0, r1, r2, r3, r4⟩ := hG.now.1.cells
      refine op_yields (.int .i64 s.fe) ?_ ?_ ?_
      · simp only [execOp, resolve, List.map_toArray, List.map_cons, List.map_nil, Act.eval, s6]; simp [go_sem, -Array.getD_eq_getD_getElem?, s6, r4]
      · exact Below.refl _ _
      · exact (fun _ _ => rfl)
    case o5 =>
      intro a w hfr hG hd
      obtain ⟨d0, _⟩ := hd
      refine ⟨fun hw => ?_, fun hw => absurd hw (by simp [Region.wanted])⟩
      have s7 : a.tmps.getD 7 undef = .int .i64 s.fe := (d0 rfl).now
      refine op_yields (.bool false) ?_ ?_ ?_
      · simp only [execOp, resolve, List.map_toArray, List.map_cons, List.map_nil, Act.eval, s7]; simp [go_sem, -Array.getD_eq_getD_getElem?, s7, hf]
      · exact Below.refl _ _
      · exact (fun _ _ => rfl)
    case o6 =>
      intro a w hfr hG hd
      obtain ⟨d0, _⟩ := hd
      refine ⟨fun hw => ?_, fun hw => absurd hw (by simp [Region.wanted])⟩
      have s8 : a.tmps.getD 8 undef = .bool false := (d0 rfl).now
      refine op_yields (.bool false) ?_ ?_ ?_
      · simp only [execOp, resolve, List.map_toArray, List.map_cons, List.map_nil, Act.eval, s8]; simp [go_sem, -Array.getD_eq_getD_getElem?, s8]
      · exact Below.refl _ _
      · exact (fun _ _ => rfl)
    case o7 =>
      intro a w hfr hG hd
      obtain ⟨d0, _⟩ := hd
      have sg : a.tmps.getD 9 undef = .bool false := (d0 rfl).now
      refine ⟨fun hw => ?_, fun hw => by rw [wanted_of rfl (yielded_of rfl sg)] at hw; exact absurd hw (by decide)⟩
      have s0 : a.tmps.getD 0 undef = .pointer (some ⟨b, 0, none⟩) := hfr.at 0 (by kernel_rfl)
      refine op_yields (.pointer (some ⟨b, 0, none⟩)) ?_ ?_ ?_
      · simp only [execOp, resolve, List.map_toArray, List.map_cons, List.map_nil, Act.eval, s0]; simp [go_sem, -Array.getD_eq_getD_getElem?, s0]
      · exact Below.refl _ _
      · exact (fun _ _ => rfl)
    case o8 =>
      intro a w hfr hG hd
      obtain ⟨d0, d1, _⟩ := hd
      have sg : a.tmps.getD 9 undef = .bool false := (d1 rfl).now
      refine ⟨fun hw => ?_, fun hw => by rw [wanted_of rfl (yielded_of rfl sg)] at hw; exact absurd hw (by decide)⟩
      have s10 : a.tmps.getD 10 undef = .pointer (some ⟨b, 0, none⟩) := (d0 rfl).now
      refine op_yields (.pointer (some ⟨b, 0, none⟩)) ?_ ?_ ?_
      · simp only [execOp, resolve, List.map_toArray, List.map_cons, List.map_nil, Act.eval, s10]; simp [go_sem, -Array.getD_eq_getD_getElem?, s10]
      · exact Below.refl _ _
      · exact (fun _ _ => rfl)
    case o9 =>
      intro a w hfr hG hd
      obtain ⟨d0, d1, _⟩ := hd
      have sg : a.tmps.getD 9 undef = .bool false := (d1 rfl).now
      refine ⟨fun hw => ?_, fun hw => by rw [wanted_of rfl (yielded_of rfl sg)] at hw; exact absurd hw (by decide)⟩
      have s11 : a.tmps.getD 11 undef = .pointer (some ⟨b, 0, none⟩) := (d0 rfl).now
      refine op_yields (.pointer (some ⟨b, 1, none⟩)) ?_ ?_ ?_
      · simp only [execOp, resolve, List.map_toArray, List.map_cons, List.map_nil, Act.eval, s11]; simp [go_sem, -Array.getD_eq_getD_getElem?, s11]
      · exact Below.refl _ _
      · exact (fun _ _ => rfl)
    case o10 =>
      intro a w hfr hG hd
      obtain ⟨d0, d1, _⟩ := hd
      have sg : a.tmps.getD 9 undef = .bool false := (d1 rfl).now
      refine ⟨fun hw => ?_, fun hw => by rw [wanted_of rfl (yielded_of rfl sg)] at hw; exact absurd hw (by decide)⟩
      have s12 : a.tmps.getD 12 undef = .pointer (some ⟨b, 1, none⟩) := (d0 rfl).now
      obtain ⟨r0, r1, r2, r3, r4⟩ := hG.now.1.cells
      refine op_yields (.int .i64 s.p) ?_ ?_ ?_
      · simp only [execOp, resolve, List.map_toArray, List.map_cons, List.map_nil, Act.eval, s12]; simp [go_sem, -Array.getD_eq_getD_getElem?, s12, r1]
      · exact Below.refl _ _
      · exact (fun _ _ => rfl)
    case o11 =>
      intro a w hfr hG hd
      obtain ⟨d0, _⟩ := hd
      have sg : a.tmps.getD 9 undef = .bool false := (d0 rfl).now
      refine ⟨fun hw => ?_, fun hw => by rw [wanted_of rfl (yielded_of rfl sg)] at hw; exact absurd hw (by decide)⟩
      have s0 : a.tmps.getD 0 undef = .pointer (some ⟨b, 0, none⟩) := hfr.at 0 (by kernel_rfl)
      refine op_yields (.pointer (some ⟨b, 0, none⟩)) ?_ ?_ ?_
      · simp only [execOp, resolve, List.map_toArray, List.map_cons, List.map_nil, Act.eval, s0]; simp [go_sem, -Array.getD_eq_getD_getElem?, s0]
      · exact Below.refl _ _
      · exact (fun _ _ => rfl)
    case o12 =>
      intro a w hfr hG hd
      obtain ⟨d0, d1, _⟩ := hd
      have sg : a.tmps.getD 9 undef = .bool false := (d1 rfl).now
      refine ⟨fun hw => ?_, fun hw => by rw [wanted_of rfl (yielded_of rfl sg)] at hw; exact absurd hw (by decide)⟩
      have s14 : a.tmps.getD 14 undef = .pointer (some ⟨b, 0, none⟩) := (d0 rfl).now
      refine op_yields (.pointer (some ⟨b, 0, none⟩)) ?_ ?_ ?_
      · simp only [execOp, resolve, List.map_toArray, List.map_cons, List.map_nil, Act.eval, s14]; simp [go_sem, -Array.getD_eq_getD_getElem?, s14]
      · exact Below.refl _ _
      · exact (fun _ _ => rfl)
    case o13 =>
      intro a w hfr hG hd
      obtain ⟨d0, d1, _⟩ := hd
      have sg : a.tmps.getD 9 undef = .bool false := (d1 rfl).now
      refine ⟨fun hw => ?_, fun hw => by rw [wanted_of rfl (yielded_of rfl sg)] at hw; exact absurd hw (by decide)⟩
      have s15 : a.tmps.getD 15 undef = .pointer (some ⟨b, 0, none⟩) := (d0 rfl).now
      refine op_yields (.pointer (some ⟨b, 0, none⟩)) ?_ ?_ ?_
      · simp only [execOp, resolve, List.map_toArray, List.map_cons, List.map_nil, Act.eval, s15]; simp [go_sem, -Array.getD_eq_getD_getElem?, s15]
      · exact Below.refl _ _
      · exact (fun _ _ => rfl)
    case o14 =>
      intro a w hfr hG hd
      obtain ⟨d0, d1, _⟩ := hd
      have sg : a.tmps.getD 9 undef = .bool false := (d1 rfl).now
      refine ⟨fun hw => ?_, fun hw => by rw [wanted_of rfl (yielded_of rfl sg)] at hw; exact absurd hw (by decide)⟩
      have s16 : a.tmps.getD 16 undef = .pointer (some ⟨b, 0, none⟩) := (d0 rfl).now
      obtain ⟨r0, r1, r2, r3, r4⟩ := hG.now.1.cells
      refine op_yields (.slice A n c) ?_ ?_ ?_
      · simp only [execOp, resolve, List.map_toArray, List.map_cons, List.map_nil, Act.eval, s16]; simp [go_sem, -Array.getD_eq_getD_getElem?, s16, r0]
      · exact Below.refl _ _
      · exact (fun _ _ => rfl)
    case o15 =>
      intro a w hfr hG hd
      obtain ⟨d0, d1, _⟩ := hd
      have sg : a.tmps.getD 9 undef = .bool false := (d1 rfl).now
      refine ⟨fun hw => ?_, fun hw => by rw [wanted_of rfl (yielded_of rfl sg)] at hw; exact absurd hw (by decide)⟩
      have s17 : a.tmps.getD 17 undef = .slice A n c := (d0 rfl).now
      refine op_yields (.int .i64 n) ?_ ?_ ?_
      · simp only [execOp, resolve, List.map_toArray, List.map_cons, List.map_nil, Act.eval, s17]; simp [go_sem, -Array.getD_eq_getD_getElem?, s17]
      · exact Below.refl _ _
      · exact (fun _ _ => rfl)
    case o16 =>
      intro a w hfr hG hd
      obtain ⟨d0, d1, d2, _⟩ := hd
      have sg : a.tmps.getD 9 undef = .bool false := (d2 rfl).now
      refine ⟨fun hw => ?_, fun hw => by rw [wanted_of rfl (yielded_of rfl sg)] at hw; exact absurd hw (by decide)⟩
      have s13 : a.tmps.getD 13 undef = .int .i64 s.p := (d0 rfl).now
      have s18 : a.tmps.getD 18 undef = .int .i64 n := (d1 rfl).now
      refine op_yields (.bool gb) ?_ ?_ ?_
      · simp only [execOp, resolve, List.map_toArray, List.map_cons, List.map_nil, Act.eval, s13, s18]; simp [go_sem, -Array.getD_eq_getD_getElem?, s13, s18, hg1, hg2]
      · exact Below.refl _ _
      · exact (fun _ _ => rfl)
    case o17 =>
      intro a w hfr hG hd
      obtain ⟨d0, d1, _⟩ := hd
      refine ⟨fun hw => ?_, fun hw => absurd hw (by simp [Region.wanted])⟩
      have s9 : a.tmps.getD 9 undef = .bool false := (d0 rfl).now
      have s19 : a.tmps.getD 19 undef = .bool gb := (d1 rfl).now
      refine op_yields (.bool gb) ?_ ?_ ?_
      · simp only [execOp, resolve, List.map_toArray, List.map_cons, List.map_nil, Act.eval, s9, s19]; simp [go_sem, -Array.getD_eq_getD_getElem?, s9, s19]
      · exact Below.refl _ _
      · exact (fun _ _ => rfl)
    case hG => exact fun w' hb => ⟨HR.out.below ((Below.refl _ _).drew.trans (hb.mono (by simp))), HK.out.below ((Below.refl _ _).drew.trans (hb.mono (by simp))) HK.out.lt, HB.out.trans ((Below.refl _ _).drew.trans (hb.mono (by simp; exact HB.out.size)))⟩
    case hend =>
      intro vs w' hG hv
      have key : vs 17 = .bool gb := by
        obtain ⟨_, _, _, _, _, _, _, _, _, _, _, _, _, _, _, _, _, h17, _⟩ := hv
        exact h17.now
      obtain ⟨hr, hk, hb⟩ := hG.now
      have HR2 := Lib.hid hr; have HK2 := Lib.hid hk; have HB2 := Lib.hid hb
      clear hv hG hr hk hb HR HK HB hg1 hg2 hf
      simp only [putAll, Act.put, key]
      clear key
      go_simp
      have hgl : w.heap.size ≤ g2 := by rw [HGE.out]; exact Nat.le_refl _
      cases gb with
      | true =>
        have HE := Lib.hid (show peekF ts s = zeroT by
          unfold peekF
          rw [if_pos HFE.out, List.getElem?_eq_none (by rw [HL.out]; exact of_decide_eq_true HGB.out)]; rfl)
        obtain ⟨c0, c1, c2, c3⟩ := blk_cells4 HK2.out
        have f0 := HK2.out.frozen 0
        have f1 := HK2.out.frozen 1
        have f2 := HK2.out.frozen 2
        have f3 := HK2.out.frozen 3
        have HKZ := Lib.hid (set4W_blk HK2.out (.int .i64 0) (.int .i64 0) (.int .i64 0) (.string ⟨#[]⟩))
        have HBZ := Lib.hid (set4W_below HB2.out hgl (.int .i64 0) (.int .i64 0) (.int .i64 0) (.string ⟨#[]⟩))
        go_wp2_with fail
        obtain ⟨q0, q1, q2, q3⟩ := blk_cells4 HKZ.out
        have hbz := HBZ.out
        unfold set4W at q0 q1 q2 q3 hbz
        refine bodyPost_ret (v := .agg #[.int .i64 0, .int .i64 0, .int .i64 0, .string ⟨#[]⟩]) (by simp [results, Tryd.results66, go_sem, q0, q1, q2, q3]) rfl ?_
        exact ⟨by rw [HE.out]; rfl, hbz⟩
      | false =>
        have hp : s.p < n := by have := of_decide_eq_false HGB.out; omega
        obtain ⟨ad, hpl, rfl, _⟩ := (Sees.tok (HR2.out.row.now) hp)
        have HTK := Lib.hid (show ∀ V : World, RdAt b (some ad) n c ts en s V → V.cell? (ad.add (s.p * 4)) = some (.int .i64 ts[s.p].kd) ∧ V.cell? ⟨(ad.add (s.p * 4)).block, (ad.add (s.p * 4)).off + 1, none⟩ = some (.int .i64 ts[s.p].n) ∧ V.cell? ⟨(ad.add (s.p * 4)).block, (ad.add (s.p * 4)).off + 2, none⟩ = some (.int .i64 ts[s.p].at_) ∧ V.cell? ⟨(ad.add (s.p * 4)).block, (ad.add (s.p * 4)).off + 3, none⟩ = some (.string ts[s.p].tx) from fun V hV => by
          obtain ⟨ad', _, h1, h2, h3, h4, h5⟩ := Sees.tok hV.row.now hp
          injection h1 with h1; subst h1
          exact ⟨h2, h3, h4, h5⟩)
        have HE := Lib.hid (show peekF ts s = ts[s.p] by unfold peekF; rw [if_pos HFE.out, List.getElem?_eq_getElem hpl]; rfl)
        generalize ts[s.p] = t at *
        have hp0 : (0 : Int) ≤ s.p := by omega
        have hp1 : (s.p : Int) < n := by omega
        go_upto_region 3 with fail
        refine wp_region_facts_tail 10 (R := fun a b => Below a.heap.size a b) (G := (fun W => RdAt b (some ad) n c ts en s W ∧ Blk W g2 43 [.int .i64 0, .int .i64 0, .int .i64 0, .string ⟨#[]⟩] ∧ Below w.heap.size w W)) (V := fun i' u' W => match i' with | 0 => u' = .pointer (some ⟨b, 0, none⟩) | 1 => u' = .pointer (some ⟨b, 0, none⟩) | 2 => u' = .pointer (some ⟨b, 0, none⟩) | 3 => u' = .slice (some ad) n c | 4 => u' = .pointer (some ⟨b, 0, none⟩) | 5 => u' = .pointer (some ⟨b, 0, none⟩) | 6 => u' = .pointer (some ⟨b, 1, none⟩) | 7 => u' = .int .i64 s.p | 8 => u' = .pointer (some (ad.add (s.p * 4))) | 9 => u' = .agg #[.int .i64 t.kd, .int .i64 t.n, .int .i64 t.at_, .string t.tx] | _ => True) (by kernel_rfl) (fun w => Below.refl _ _) (fun a b c h1 h2 => h1.trans (h2.mono h1.size)) (by kernel_rfl) (by kernel_rfl) (by kernel_rfl) (by kernel_rfl) (by decide) (by kernel_rfl) ?hG ⟨?o0, ?o1, ?o2, ?o3, ?o4, ?o5, ?o6, ?o7, ?o8, ?o9, trivial⟩ ?hend
        case o0 =>
          intro a w hfr hG hd
          refine ⟨fun hw => ?_, fun hw => absurd hw (by simp [Region.wanted])⟩
          have s0 : a.tmps.getD 0 undef = .pointer (some ⟨b, 0, none⟩) := hfr.at 0 (by kernel_rfl)
          refine op_yields (.pointer (some ⟨b, 0, none⟩)) ?_ ?_ ?_
          · simp only [execOp, resolve, List.map_toArray, List.map_cons, List.map_nil, Act.eval, s0]; simp [go_sem, -Array.getD_eq_getD_getElem?, s0]
          · exact Below.refl _ _
          · exact (fun _ _ => rfl)
        case o1 =>
          intro a w hfr hG hd
          obtain ⟨d0, _⟩ := hd
          refine ⟨fun hw => ?_, fun hw => absurd hw (by simp [Region.wanted])⟩
          have s22 : a.tmps.getD 22 undef = .pointer (some ⟨b, 0, none⟩) := (d0 rfl).now
          refine op_yields (.pointer (some ⟨b, 0, none⟩)) ?_ ?_ ?_
          · simp only [execOp, resolve, List.map_toArray, List.map_cons, List.map_nil, Act.eval, s22]; simp [go_sem, -Array.getD_eq_getD_getElem?, s22]
          · exact Below.refl _ _
          · exact (fun _ _ => rfl)
        case o2 =>
          intro a w hfr hG hd
          obtain ⟨d0, _⟩ := hd
          refine ⟨fun hw => ?_, fun hw => absurd hw (by simp [Region.wanted])⟩
          have s23 : a.tmps.getD 23 undef = .pointer (some ⟨b, 0, none⟩) := (d0 rfl).now
          refine op_yields (.pointer (some ⟨b, 0, none⟩)) ?_ ?_ ?_
          · simp only [execOp, resolve, List.map_toArray, List.map_cons, List.map_nil, Act.eval, s23]; simp [go_sem, -Array.getD_eq_getD_getElem?, s23]
          · exact Below.refl _ _
          · exact (fun _ _ => rfl)
        case o3 =>
          intro a w hfr hG hd
          obtain ⟨d0, _⟩ := hd
          refine ⟨fun hw => ?_, fun hw => absurd hw (by simp [Region.wanted])⟩
          have s24 : a.tmps.getD 24 undef = .pointer (some ⟨b, 0, none⟩) := (d0 rfl).now
          obtain ⟨r0, r1, r2, r3, r4⟩ := hG.now.1.cells
          refine op_yields (.slice (some ad) n c) ?_ ?_ ?_
          · simp only [execOp, resolve, List.map_toArray, List.map_cons, List.map_nil, Act.eval, s24]; simp [go_sem, -Array.getD_eq_getD_getElem?, s24, r0]
          · exact Below.refl _ _
          · exact (fun _ _ => rfl)
        case o4 =>
          intro a w hfr hG hd
          refine ⟨fun hw => ?_, fun hw => absurd hw (by simp [Region.wanted])⟩
          have s0 : a.tmps.getD 0 undef = .pointer (some ⟨b, 0, none⟩) := hfr.at 0 (by kernel_rfl)
          refine op_yields (.pointer (some ⟨b, 0, none⟩)) ?_ ?_ ?_
          · simp only [execOp, resolve, List.map_toArray, List.map_cons, List.map_nil, Act.eval, s0]; simp [go_sem, -Array.getD_eq_getD_getElem?, s0]
          · exact Below.refl _ _
          · exact (fun _ _ => rfl)
        case o5 =>
          intro a w hfr hG hd
          obtain ⟨d0, _⟩ := hd
          refine ⟨fun hw => ?_, fun hw => absurd hw (by simp [Region.wanted])⟩
          have s26 : a.tmps.getD 26 undef = .pointer (some ⟨b, 0, none⟩) := (d0 rfl).now
          refine op_yields (.pointer (some ⟨b, 0, none⟩)) ?_ ?_ ?_
          · simp only [execOp, resolve, List.map_toArray, List.map_cons, List.map_nil, Act.eval, s26]; simp [go_sem, -Array.getD_eq_getD_getElem?, s26]
          · exact Below.refl _ _
          · exact (fun _ _ => rfl)
        case o6 =>
          intro a w hfr hG hd
          obtain ⟨d0, _⟩ := hd
          refine ⟨fun hw => ?_, fun hw => absurd hw (by simp [Region.wanted])⟩
          have s27 : a.tmps.getD 27 undef = .pointer (some ⟨b, 0, none⟩) := (d0 rfl).now
          refine op_yields (.pointer (some ⟨b, 1, none⟩)) ?_ ?_ ?_
          · simp only [execOp, resolve, List.map_toArray, List.map_cons, List.map_nil, Act.eval, s27]; simp [go_sem, -Array.getD_eq_getD_getElem?, s27]
          · exact Below.refl _ _
          · exact (fun _ _ => rfl)
        case o7 =>
          intro a w hfr hG hd
          obtain ⟨d0, _⟩ := hd
          refine ⟨fun hw => ?_, fun hw => absurd hw (by simp [Region.wanted])⟩
          have s28 : a.tmps.getD 28 undef = .pointer (some ⟨b, 1, none⟩) := (d0 rfl).now
          obtain ⟨r0, r1, r2, r3, r4⟩ := hG.now.1.cells
          refine op_yields (.int .i64 s.p) ?_ ?_ ?_
          · simp only [execOp, resolve, List.map_toArray, List.map_cons, List.map_nil, Act.eval, s28]; simp [go_sem, -Array.getD_eq_getD_getElem?, s28, r1]
          · exact Below.refl _ _
          · exact (fun _ _ => rfl)
        case o8 =>
          intro a w hfr hG hd
          obtain ⟨d0, d1, _⟩ := hd
          refine ⟨fun hw => ?_, fun hw => absurd hw (by simp [Region.wanted])⟩
          have s25 : a.tmps.getD 25 undef = .slice (some ad) n c := (d0 rfl).now
          have s29 : a.tmps.getD 29 undef = .int .i64 s.p := (d1 rfl).now
          refine op_yields (.pointer (some (ad.add (s.p * 4)))) ?_ ?_ ?_
          · simp only [execOp, resolve, List.map_toArray, List.map_cons, List.map_nil, Act.eval, s25, s29]; simp [go_sem, -Array.getD_eq_getD_getElem?, s25, s29, hp0, hp1]
          · exact Below.refl _ _
          · exact (fun _ _ => rfl)
        case o9 =>
          intro a w hfr hG hd
          obtain ⟨d0, _⟩ := hd
          refine ⟨fun hw => ?_, fun hw => absurd hw (by simp [Region.wanted])⟩
          have s30 : a.tmps.getD 30 undef = .pointer (some (ad.add (s.p * 4))) := (d0 rfl).now
          obtain ⟨k0, k1, k2, k3⟩ := HTK.out w hG.now.1
          refine op_yields (.agg #[.int .i64 t.kd, .int .i64 t.n, .int .i64 t.at_, .string t.tx]) ?_ ?_ ?_
          · simp only [execOp, resolve, List.map_toArray, List.map_cons, List.map_nil, Act.eval, s30]; simp [go_sem, -Array.getD_eq_getD_getElem?, s30, k0, k1, k2, k3]
          · exact Below.refl _ _
          · exact (fun _ _ => rfl)
        case hG => exact fun w' hb => ⟨HR2.out.below ((Below.refl _ _).drew.trans (hb.mono (by simp))), HK2.out.below ((Below.refl _ _).drew.trans (hb.mono (by simp))) HK2.out.lt, HB2.out.trans ((Below.refl _ _).drew.trans (hb.mono (by simp; exact HB2.out.size)))⟩
        case hend =>
          intro vs w' hG hv
          have key : vs 9 = .agg #[.int .i64 t.kd, .int .i64 t.n, .int .i64 t.at_, .string t.tx] := by
            obtain ⟨_, _, _, _, _, _, _, _, _, h9, _⟩ := hv
            exact h9.now
          obtain ⟨hr, hk, hb⟩ := hG.now
          have HK3 := Lib.hid hk; have HB3 := Lib.hid hb
          clear hv hG hr hk hb HR2 HK2 HB2 HTK
          obtain ⟨c0, c1, c2, c3⟩ := blk_cells4 HK3.out
          have f0 := HK3.out.frozen 0
          have f1 := HK3.out.frozen 1
          have f2 := HK3.out.frozen 2
          have f3 := HK3.out.frozen 3
          have HKZ := Lib.hid (set4W_blk HK3.out (.int .i64 t.kd) (.int .i64 t.n) (.int .i64 t.at_) (.string t.tx))
          have HBZ := Lib.hid (set4W_below HB3.out hgl (.int .i64 t.kd) (.int .i64 t.n) (.int .i64 t.at_) (.string t.tx))
          change wpList _ _ _ [_] (putAll vs 0 [_, _, _, _, _, _, _, _, _, _] _) _
          simp only [putAll, Act.put, key]
          clear key
          go_wp2_with fail
          obtain ⟨q0, q1, q2, q3⟩ := blk_cells4 HKZ.out
          have hbz := HBZ.out
          unfold set4W at q0 q1 q2 q3 hbz
          refine bodyPost_ret (v := .agg #[.int .i64 t.kd, .int .i64 t.n, .int .i64 t.at_, .string t.tx]) (by simp [results, Tryd.results66, go_sem, q0, q1, q2, q3]) rfl ?_
          exact ⟨by rw [HE.out]; rfl, hbz⟩
  · have hf : (s.fe != 0) = true := by rw [bne, beq_eq_false_iff_ne.2 hfe]; rfl
    have HE := Lib.hid (show peekF ts s = zeroT by unfold peekF; rw [if_neg hfe])
    clear hfe
    refine wp_region_facts (R := fun a b => Below a.heap.size a b) (G := (fun W => RdAt b A n c ts en s W ∧ Blk W g2 43 [.int .i64 0, .int .i64 0, .int .i64 0, .string ⟨#[]⟩] ∧ Below w.heap.size w W)) (V := fun i' u' W => match i' with | 0 => u' = .pointer (some ⟨b, 0, none⟩) | 1 => u' = .pointer (some ⟨b, 0, none⟩) | 2 => u' = .pointer (some ⟨b, 3, none⟩) | 3 => u' = .pointer (some ⟨b, 4, none⟩) | 4 => u' = .int .i64 s.fe | 5 => u' = .bool true | 6 => u' = .bool true | 7 => True | 8 => True | 9 => True | 10 => True | 11 => True | 12 => True | 13 => True | 14 => True | 15 => True | 16 => True | 17 => u' = .bool true | _ => True) (by kernel_rfl) (fun w => Below.refl _ _) (fun a b c h1 h2 => h1.trans (h2.mono h1.size)) (by kernel_rfl) (by kernel_rfl) ?hG ⟨?o0, ?o1, ?o2, ?o3, ?o4, ?o5, ?o6, ?o7, ?o8, ?o9, ?o10, ?o11, ?o12, ?o13, ?o14, ?o15, ?o16, ?o17, trivial⟩ ?hend
    case o0 =>
      intro a w hfr hG hd
      refine ⟨fun hw => ?_, fun hw => absurd hw (by simp [Region.wanted])⟩
      have s0 : a.tmps.getD 0 undef = .pointer (some ⟨b, 0, none⟩) := hfr.at 0 (by kernel_rfl)
      refine op_yields (.pointer (some ⟨b, 0, none⟩)) ?_ ?_ ?_
      · simp only [execOp, resolve, List.map_toArray, List.map_cons, List.map_nil, Act.eval, s0]; simp [go_sem, -Array.getD_eq_getD_getElem?, s0]
      · exact Below.refl _ _
      · exact (fun _ _ => rfl)
    case o1 =>
      intro a w hfr hG hd
      obtain ⟨d0, _⟩ := hd
      refine ⟨fun hw => ?_, fun hw => absurd hw (by simp [Region.wanted])⟩
      have s3 : a.tmps.getD 3 undef = .pointer (some ⟨b, 0, none⟩) := (d0 rfl).now
      refine op_yields (.pointer (some ⟨b, 0, none⟩)) ?_ ?_ ?_
      · simp only [execOp, resolve, List.map_toArray, List.map_cons, List.map_nil, Act.eval, s3]; simp [go_sem, -Array.getD_eq_getD_getElem?, s3]
      · exact Below.refl _ _
      · exact (fun _ _ => rfl)
    case o2 =>
      intro a w hfr hG hd
      obtain ⟨d0, _⟩ := hd
      refine ⟨fun hw => ?_, fun hw => absurd hw (by simp [Region.wanted])⟩
      have s4 : a.tmps.getD 4 undef = .pointer (some ⟨b, 0, none⟩) := (d0 rfl).now
      refine op_yields (.pointer (some ⟨b, 3, none⟩)) ?_ ?_ ?_
      · simp only [execOp, resolve, List.map_toArray, List.map_cons, List.map_nil, Act.eval, s4]; simp [go_sem, -Array.getD_eq_getD_getElem?, s4]
      · exact Below.refl _ _
      · exact (fun _ _ => rfl)
    case o3 =>
      intro a w hfr hG hd
      obtain ⟨d0, _⟩ := hd
      refine ⟨fun hw => ?_, fun hw => absurd hw (by simp [Region.wanted])⟩
      have s5 : a.tmps.getD 5 undef = .pointer (some ⟨b, 3, none⟩) := (d0 rfl).now
      refine op_yields (.pointer (some ⟨b, 4, none⟩)) ?_ ?_ ?_
      · simp only [execOp, resolve, List.map_toArray, List.map_cons, List.map_nil, Act.eval, s5]; simp [go_sem, -Array.getD_eq_getD_getElem?, s5]
      · exact Below.refl _ _
      · exact (fun _ _ => rfl)
    case o4 =>
      intro a w hfr hG hd
      obtain ⟨d0, _⟩ := hd
      refine ⟨fun hw => ?_, fun hw => absurd hw (by simp [Region.wanted])⟩
      have s6 : a.tmps.getD 6 undef = .pointer (some ⟨b, 4, none⟩) := (d0 rfl).now
      obtain ⟨r0, r1, r2, r3, r4⟩ := hG.now.1.cells
      refine op_yields (.int .i64 s.fe) ?_ ?_ ?_
      · simp only [execOp, resolve, List.map_toArray, List.map_cons, List.map_nil, Act.eval, s6]; simp [go_sem, -Array.getD_eq_getD_getElem?, s6, r4]
      · exact Below.refl _ _
      · exact (fun _ _ => rfl)
    case o5 =>
      intro a w hfr hG hd
      obtain ⟨d0, _⟩ := hd
      refine ⟨fun hw => ?_, fun hw => absurd hw (by simp [Region.wanted])⟩
      have s7 : a.tmps.getD 7 undef = .int .i64 s.fe := (d0 rfl).now
      refine op_yields (.bool true) ?_ ?_ ?_
      · simp only [execOp, resolve, List.map_toArray, List.map_cons, List.map_nil, Act.eval, s7]; simp [go_sem, -Array.getD_eq_getD_getElem?, s7, hf]
      · exact Below.refl _ _
      · exact (fun _ _ => rfl)
    case o6 =>
      intro a w hfr hG hd
      obtain ⟨d0, _⟩ := hd
      refine ⟨fun hw => ?_, fun hw => absurd hw (by simp [Region.wanted])⟩
      have s8 : a.tmps.getD 8 undef = .bool true := (d0 rfl).now
      refine op_yields (.bool true) ?_ ?_ ?_
      · simp only [execOp, resolve, List.map_toArray, List.map_cons, List.map_nil, Act.eval, s8]; simp [go_sem, -Array.getD_eq_getD_getElem?, s8]
      · exact Below.refl _ _
      · exact (fun _ _ => rfl)
    case o7 =>
      intro a w hfr hG hd
      obtain ⟨d0, _⟩ := hd
      have sg : a.tmps.getD 9 undef = .bool true := (d0 rfl).now
      refine ⟨fun hw => ?_, fun hw => fun _ _ => trivial⟩
      rw [wanted_of rfl (yielded_of rfl sg)] at hw; exact absurd hw (by decide)
    case o8 =>
      intro a w hfr hG hd
      obtain ⟨d0, d1, _⟩ := hd
      have sg : a.tmps.getD 9 undef = .bool true := (d1 rfl).now
      refine ⟨fun hw => ?_, fun hw => fun _ _ => trivial⟩
      rw [wanted_of rfl (yielded_of rfl sg)] at hw; exact absurd hw (by decide)
    case o9 =>
      intro a w hfr hG hd
      obtain ⟨d0, d1, _⟩ := hd
      have sg : a.tmps.getD 9 undef = .bool true := (d1 rfl).now
      refine ⟨fun hw => ?_, fun hw => fun _ _ => trivial⟩
      rw [wanted_of rfl (yielded_of rfl sg)] at hw; exact absurd hw (by decide)
    case o10 =>
      intro a w hfr hG hd
      obtain ⟨d0, d1, _⟩ := hd
      have sg : a.tmps.getD 9 undef = .bool true := (d1 rfl).now
      refine ⟨fun hw => ?_, fun hw => fun _ _ => trivial⟩
      rw [wanted_of rfl (yielded_of rfl sg)] at hw; exact absurd hw (by decide)
    case o11 =>
      intro a w hfr hG hd
      obtain ⟨d0, _⟩ := hd
      have sg : a.tmps.getD 9 undef = .bool true := (d0 rfl).now
      refine ⟨fun hw => ?_, fun hw => fun _ _ => trivial⟩
      rw [wanted_of rfl (yielded_of rfl sg)] at hw; exact absurd hw (by decide)
    case o12 =>
      intro a w hfr hG hd
      obtain ⟨d0, d1, _⟩ := hd
      have sg : a.tmps.getD 9 undef = .bool true := (d1 rfl).now
      refine ⟨fun hw => ?_, fun hw => fun _ _ => trivial⟩
      rw [wanted_of rfl (yielded_of rfl sg)] at hw; exact absurd hw (by decide)
    case o13 =>
      intro a w hfr hG hd
      obtain ⟨d0, d1, _⟩ := hd
      have sg : a.tmps.getD 9 undef = .bool true := (d1 rfl).now
      refine ⟨fun hw => ?_, fun hw => fun _ _ => trivial⟩
      rw [wanted_of rfl (yielded_of rfl sg)] at hw; exact absurd hw (by decide)
    case o14 =>
      intro a w hfr hG hd
      obtain ⟨d0, d1, _⟩ := hd
      have sg : a.tmps.getD 9 undef = .bool true := (d1 rfl).now
      refine ⟨fun hw => ?_, fun hw => fun _ _ => trivial⟩
      rw [wanted_of rfl (yielded_of rfl sg)] at hw; exact absurd hw (by decide)
    case o15 =>
      intro a w hfr hG hd
      obtain ⟨d0, d1, _⟩ := hd
      have sg : a.tmps.getD 9 undef = .bool true := (d1 rfl).now
      refine ⟨fun hw => ?_, fun hw => fun _ _ => trivial⟩
      rw [wanted_of rfl (yielded_of rfl sg)] at hw; exact absurd hw (by decide)
    case o16 =>
      intro a w hfr hG hd
      obtain ⟨d0, d1, d2, _⟩ := hd
      have sg : a.tmps.getD 9 undef = .bool true := (d2 rfl).now
      refine ⟨fun hw => ?_, fun hw => fun _ _ => trivial⟩
      rw [wanted_of rfl (yielded_of rfl sg)] at hw; exact absurd hw (by decide)
    case o17 =>
      intro a w hfr hG hd
      obtain ⟨d0, d1, _⟩ := hd
      refine ⟨fun hw => ?_, fun hw => absurd hw (by simp [Region.wanted])⟩
      have s9 : a.tmps.getD 9 undef = .bool true := (d0 rfl).now
      refine op_yields (.bool true) ?_ ?_ ?_
      · simp only [execOp, resolve, List.map_toArray, List.map_cons, List.map_nil, Act.eval, s9]; simp [go_sem, -Array.getD_eq_getD_getElem?, s9]
      · exact Below.refl _ _
      · exact (fun _ _ => rfl)
    case hG => exact fun w' hb => ⟨HR.out.below ((Below.refl _ _).drew.trans (hb.mono (by simp))), HK.out.below ((Below.refl _ _).drew.trans (hb.mono (by simp))) HK.out.lt, HB.out.trans ((Below.refl _ _).drew.trans (hb.mono (by simp; exact HB.out.size)))⟩
    case hend =>
      intro vs w' hG hv
      have key : vs 17 = .bool true := by
        obtain ⟨_, _, _, _, _, _, _, _, _, _, _, _, _, _, _, _, _, h17, _⟩ := hv
        exact h17.now
      obtain ⟨hr, hk, hb⟩ := hG.now
      have HK2 := Lib.hid hk; have HB2 := Lib.hid hb
      clear hv hG hr hk hb HR HK HB hf
      simp only [putAll, Act.put, key]
      clear key
      go_simp
      have hgl : w.heap.size ≤ g2 := by rw [HGE.out]; exact Nat.le_refl _
      obtain ⟨c0, c1, c2, c3⟩ := blk_cells4 HK2.out
      have f0 := HK2.out.frozen 0
      have f1 := HK2.out.frozen 1
      have f2 := HK2.out.frozen 2
      have f3 := HK2.out.frozen 3
      have HKZ := Lib.hid (set4W_blk HK2.out (.int .i64 0) (.int .i64 0) (.int .i64 0) (.string ⟨#[]⟩))
      have HBZ := Lib.hid (set4W_below HB2.out hgl (.int .i64 0) (.int .i64 0) (.int .i64 0) (.string ⟨#[]⟩))
      go_wp2_with fail
      obtain ⟨q0, q1, q2, q3⟩ := blk_cells4 HKZ.out
      have hbz := HBZ.out
      unfold set4W at q0 q1 q2 q3 hbz
      refine bodyPost_ret (v := .agg #[.int .i64 0, .int .i64 0, .int .i64 0, .string ⟨#[]⟩]) (by simp [results, Tryd.results66, go_sem, q0, q1, q2, q3]) rfl ?_
      exact ⟨by rw [HE.out]; rfl, hbz⟩
end Go.Proofs.YtnkbpcenkbihpaaDoor
