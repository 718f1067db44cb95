/- LexCuts: what its parts keep. -/
import Derived.Test.YtealflkblkfhbaaDoorLexJoinA
import Derived.Test.YtealflkblkfhbaaDoorCutsMath
namespace Go.Proofs.YtealflkblkfhbaaDoor
open Go.ChangeShapes Go.WideShapes Go.ChangeAt Go.RowKit
set_option linter.unusedVariables false
set_option linter.unusedSimpArgs false
set_option maxRecDepth 100000
/-- Both arguments, in boxes. -/
structure TwoK (w0 : World) (ka kb : KSet) (ba bb : Nat) (W : World) : Prop where
  a : ka.ok w0.heap.size W
  b : kb.ok w0.heap.size W
  xa : Blk W ba 32 [.slice ka.A ka.n ka.c, .slice ka.A2 ka.n2 ka.c2]
  xb : Blk W bb 32 [.slice kb.A kb.n kb.c, .slice kb.A2 kb.n2 kb.c2]
  bel : Below w0.heap.size w0 W
section
variable {w0 W W' : World} {ka kb : KSet} {ba bb : Nat}
theorem kset_more {k : KSet} {B B' : Nat} {w : World} (h : k.ok B w) (hb : B ≤ B') : k.ok B' w := ⟨h.has_.more hb, h.hasI, h.n_, h.vals_.more hb, h.valsI, h.n2_⟩
theorem TwoK.okA (h : TwoK w0 ka kb ba bb W) : ka.ok W.heap.size W := kset_more h.a h.bel.size
theorem TwoK.okB (h : TwoK w0 ka kb ba bb W) : kb.ok W.heap.size W := kset_more h.b h.bel.size
theorem TwoK.below (h : TwoK w0 ka kb ba bb W) (hb : Below W.heap.size W W') : TwoK w0 ka kb ba bb W' :=
  ⟨h.a.below (hb.mono h.bel.size), h.b.below (hb.mono h.bel.size), h.xa.below hb h.xa.lt, h.xb.below hb h.xb.lt, h.bel.trans (hb.mono h.bel.size)⟩
theorem TwoK.mk' (ha : ka.ok w0.heap.size w0) (hb : kb.ok w0.heap.size w0) : TwoK w0 ka kb w0.heap.size (w0.heap.size + 1) ((w0.alloc (.cells #[.slice ka.A ka.n ka.c, .slice ka.A2 ka.n2 ka.c2] 32)).alloc (.cells #[.slice kb.A kb.n kb.c, .slice kb.A2 kb.n2 kb.c2] 32)) := by
  have h1 := (Below.refl w0.heap.size w0).alloc (Nat.le_refl _) (.cells #[.slice ka.A ka.n ka.c, .slice ka.A2 ka.n2 ka.c2] 32)
  have h2 := h1.alloc h1.size (.cells #[.slice kb.A kb.n kb.c, .slice kb.A2 kb.n2 kb.c2] 32)
  have x1 : Blk (w0.alloc (.cells #[.slice ka.A ka.n ka.c, .slice ka.A2 ka.n2 ka.c2] 32)) w0.heap.size 32 [.slice ka.A ka.n ka.c, .slice ka.A2 ka.n2 ka.c2] := Blk.mk (heap_alloc_new w0 _)
  have x2 : Blk ((w0.alloc (.cells #[.slice ka.A ka.n ka.c, .slice ka.A2 ka.n2 ka.c2] 32)).alloc (.cells #[.slice kb.A kb.n kb.c, .slice kb.A2 kb.n2 kb.c2] 32)) (w0.alloc (.cells #[.slice ka.A ka.n ka.c, .slice ka.A2 ka.n2 ka.c2] 32)).heap.size 32 [.slice kb.A kb.n kb.c, .slice kb.A2 kb.n2 kb.c2] := Blk.mk (heap_alloc_new _ _)
  rw [World.size_alloc] at x2
  exact ⟨ha.below h2, hb.below h2, x1.alloc _, x2, h2⟩
end
/-- Three rows of tokens. -/
structure CsAt (B : Nat) (A1 : Option Addr) (ts : List Tok) (A2 : Option Addr) (us : List Tok) (A3 : Option Addr) (bs : List Tok) (n1 n2 N : Nat) (w0 V : World) : Prop where
  l : Sees V B 4 A1 n1 (tcells ts)
  m : Sees V B 4 A2 n2 (tcells us)
  b : Sees V B 4 A3 N (tcells bs)
  bel : Below w0.heap.size w0 V
  lt : B ≤ V.heap.size
  le : w0.heap.size ≤ B
section
variable {B : Nat} {A1 A2 A3 : Option Addr} {ts us bs : List Tok} {n1 n2 N : Nat} {w0 V V' : World}
theorem CsAt.below (h : CsAt B A1 ts A2 us A3 bs n1 n2 N w0 V) (hb : Below V.heap.size V V') : CsAt B A1 ts A2 us A3 bs n1 n2 N w0 V' :=
  ⟨h.l.below (hb.mono h.lt), h.m.below (hb.mono h.lt), h.b.below (hb.mono h.lt), h.bel.trans (hb.mono (Nat.le_trans h.le h.lt)), Nat.le_trans h.lt hb.size, h.le⟩
theorem CsAt.alloc (h : CsAt B A1 ts A2 us A3 bs n1 n2 N w0 V) (o : Obj) : CsAt B A1 ts A2 us A3 bs n1 n2 N w0 (V.alloc o) := h.below ((Below.refl _ _).alloc (Nat.le_refl _) o)
theorem CsAt.set (h : CsAt B A1 ts A2 us A3 bs n1 n2 N w0 V) (b i : Nat) (hb : B ≤ b) (u : Value) : CsAt B A1 ts A2 us A3 bs n1 n2 N w0 (V.setCell ⟨b, i, none⟩ u) :=
  ⟨h.l.setCell (p := ⟨b, i, none⟩) hb u, h.m.setCell (p := ⟨b, i, none⟩) hb u, h.b.setCell (p := ⟨b, i, none⟩) hb u, h.bel.setCell (p := ⟨b, i, none⟩) (Nat.le_trans h.le hb) u, by rw [World.size_setCell]; exact h.lt, h.le⟩
end
/-- .. and both copies in a round. -/
structure RdAt (B : Nat) (A1 : Option Addr) (ts : List Tok) (A2 : Option Addr) (us : List Tok) (A3 : Option Addr) (bs : List Tok) (n1 n2 N : Nat) (w0 : World) (bx bw : Nat) (x0 x1 x2 x3 y0 y1 y2 y3 : Value) (V : World) : Prop where
  c : CsAt B A1 ts A2 us A3 bs n1 n2 N w0 V
  x : Blk V bx 27 [x0, x1, x2, x3]
  y : Blk V bw 27 [y0, y1, y2, y3]
  ne : bx ≠ bw
  lb : B ≤ bw
section
variable {B : Nat} {A1 A2 A3 : Option Addr} {ts us bs : List Tok} {n1 n2 N : Nat} {w0 V V' : World} {bx bw : Nat} {x0 x1 x2 x3 y0 y1 y2 y3 : Value}
theorem RdAt.put (h : RdAt B A1 ts A2 us A3 bs n1 n2 N w0 bx bw x0 x1 x2 x3 y0 y1 y2 y3 V) (v0 v1 v2 v3 : Value) : RdAt B A1 ts A2 us A3 bs n1 n2 N w0 bx bw x0 x1 x2 x3 v0 v1 v2 v3 ((((V.setCell ⟨bw, 0, none⟩ v0).setCell ⟨bw, 1, none⟩ v1).setCell ⟨bw, 2, none⟩ v2).setCell ⟨bw, 3, none⟩ v3) :=
  ⟨(((h.c.set bw 0 h.lb v0).set bw 1 h.lb v1).set bw 2 h.lb v2).set bw 3 h.lb v3, (((h.x.far h.ne v0).far h.ne v1).far h.ne v2).far h.ne v3, set4W_blk h.y v0 v1 v2 v3, h.ne, h.lb⟩
theorem RdAt.put2 (h : RdAt B A1 ts A2 us A3 bs n1 n2 N w0 bx bw x0 x1 x2 x3 y0 y1 y2 y3 V) (v2 : Value) : RdAt B A1 ts A2 us A3 bs n1 n2 N w0 bx bw x0 x1 x2 x3 y0 y1 v2 y3 (V.setCell ⟨bw, 2, none⟩ v2) :=
  ⟨h.c.set bw 2 h.lb v2, h.x.far h.ne v2, h.y.set 2 v2, h.ne, h.lb⟩
theorem RdAt.mk' (h : CsAt B A1 ts A2 us A3 bs n1 n2 N w0 V) (x0 x1 x2 x3 y0 y1 y2 y3 : Value) : RdAt B A1 ts A2 us A3 bs n1 n2 N w0 V.heap.size (V.heap.size + 1) x0 x1 x2 x3 y0 y1 y2 y3 ((V.alloc (.cells #[x0, x1, x2, x3] 27)).alloc (.cells #[y0, y1, y2, y3] 27)) := by
  have q1 : Blk (V.alloc (.cells #[x0, x1, x2, x3] 27)) V.heap.size 27 [x0, x1, x2, x3] := Blk.mk (heap_alloc_new V _)
  have q2 : Blk ((V.alloc (.cells #[x0, x1, x2, x3] 27)).alloc (.cells #[y0, y1, y2, y3] 27)) (V.alloc (.cells #[x0, x1, x2, x3] 27)).heap.size 27 [y0, y1, y2, y3] := Blk.mk (heap_alloc_new _ _)
  rw [World.size_alloc] at q2
  exact ⟨(h.alloc _).alloc _, q1.alloc _, q2, by omega, by have := h.lt; omega⟩
end
theorem tcells_take : ∀ (l : List Tok) (k : Nat), tcells (l.take k) = (tcells l).take (k * 4)
  | [], k => by simp [tcells]
  | t :: l, 0 => by simp [tcells]
  | t :: l, k + 1 => by
    rw [List.take_succ_cons]
    have e1 : tcells (t :: l.take k) = [.int .i64 t.kd, .int .i64 t.n, .int .i64 t.at_, .string t.tx] ++ tcells (l.take k) := rfl
    have e2 : tcells (t :: l) = [.int .i64 t.kd, .int .i64 t.n, .int .i64 t.at_, .string t.tx] ++ tcells l := rfl
    have e3 : List.take (4 + k * 4) ([.int .i64 t.kd, .int .i64 t.n, .int .i64 t.at_, .string t.tx] : List Value) = [.int .i64 t.kd, .int .i64 t.n, .int .i64 t.at_, .string t.tx] := List.take_of_length_le (by show 4 ≤ 4 + k * 4; omega)
    have e4 : 4 + k * 4 - ([.int .i64 t.kd, .int .i64 t.n, .int .i64 t.at_, .string t.tx] : List Value).length = k * 4 := by show 4 + k * 4 - 4 = k * 4; omega
    rw [e1, e2, tcells_take l k, show (k + 1) * 4 = 4 + k * 4 by omega, List.take_append, e3, e4]
end Go.Proofs.YtealflkblkfhbaaDoor
