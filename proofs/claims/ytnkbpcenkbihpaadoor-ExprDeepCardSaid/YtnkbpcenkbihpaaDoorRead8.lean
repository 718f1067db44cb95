/- expr.reader: ofTwo, ofOne, expr. -/
import Derived.Test.YtnkbpcenkbihpaaDoorRead7
namespace Go.Proofs.YtnkbpcenkbihpaaDoor
open Go.ChangeShapes Go.WideShapes Go.ChangeAt Go.RowKit
set_option linter.unusedVariables false
set_option linter.unusedSimpArgs false
set_option maxRecDepth 100000
/-- Names up to the bracket. -/
def nsF (ts : List Tok) (en : Int) : Nat → List ByteArray → PS → List ByteArray × PS
  | 0, ns, s => (ns, s)
  | f + 1, ns, s => if s.fe = 0 then (if isF ts s 4 ⟨#[41]⟩ = true then (ns, nextF s) else
      nsF ts en f (ns ++ [(takeF ts en (if ns.length = 0 then s else mustF ts en s 4 ⟨#[44]⟩) 2).1.tx]) (takeF ts en (if ns.length = 0 then s else mustF ts en s 4 ⟨#[44]⟩) 2).2) else (ns, s)
def ofOneF (ts : List Tok) (en : Int) (n : Nat) (rec : PS → PE × PS) (k : Int) (s : PS) : PE × PS :=
  let r := nsF ts en (n + 2) [] (mustF ts en (mustF ts en (takeF ts en s 2).2 2 ⟨#[98, 121]⟩) 4 ⟨#[40]⟩)
  let y := rec (mustF ts en r.2 4 ⟨#[40]⟩)
  (.mk k 0 [] r.1 [y.1], mustF ts en y.2 4 ⟨#[41]⟩)
def ofTwoF (ts : List Tok) (en : Int) (rec : PS → PE × PS) (s : PS) : PE × PS :=
  let y := rec (mustF ts en s 4 ⟨#[40]⟩)
  let k := betweenF ts en y.2
  let z := rec k.2
  (.mk k.1 0 [] [] [y.1, z.1], mustF ts en z.2 4 ⟨#[41]⟩)
def zeroPE : PE := .mk 0 0 [] [] []
/-- A token that begins no expression. -/
def noneF (ts : List Tok) (s : PS) : Bool := (peekF ts s).kd != 1 && kindF (peekF ts s) == 0 && !(isF ts s 4 ⟨#[123]⟩) && !(isF ts s 4 ⟨#[40]⟩)
/-- An expression of at most so many floors. -/
def exprF (ts : List Tok) (en : Int) (n : Nat) : Nat → PS → PE × PS
  | 0, s => if noneF ts s = true then (zeroPE, failF ts en s 1) else (zeroPE, failF ts en s 6)
  | f + 1, s => if noneF ts s = true then (zeroPE, failF ts en s 1)
    else if (peekF ts s).kd = 1 then (.mk 1 (takeF ts en s 1).1.n [] [] [], (takeF ts en s 1).2)
    else if kindF (peekF ts s) ≠ 0 then ofOneF ts en n (exprF ts en n f) (kindF (peekF ts s)) s
    else if isF ts s 4 ⟨#[123]⟩ = true then pickR ts en n s
    else ofTwoF ts en (exprF ts en n f) s
/-- What is told of expr at so many floors. -/
def ExprSaid (b : Nat) (A : Option Addr) (n c : Nat) (ts : List Tok) (en : Int) (f : Nat) : Prop :=
  ∀ (deep : Nat) (s : PS) (w : World), deep + f = 9 → RdAt b A n c ts en s w →
    Calls Tryd.prog 44 #[.pointer (some ⟨b, 0, none⟩), .int .i64 (deep : Nat)] w fun e w' => XAns b A n c ts en (f + 1) (exprF ts en n f s) w e w'
theorem two_ans {b n c d g4 gx gy sx sy : Nat} {A : Option Addr} {ts : List Tok} {en : Int} {s s' : PS} {w0 w : World} {x y : XE} (kk : Int)
    (h0 : RdAt b A n c ts en s' w0) (h : Moved b A n c ts en s w0 w) (hz : Blk w g4 26 [.int .i64 0, .int .i64 0, .slice none 0 0, .slice none 0 0, .slice none 0 0])
    (hx : Kid d sx gx x w) (hy : Kid d sy gy y w) (h4 : w0.heap.size ≤ g4) (hsx : g4 < sx) (hsy : g4 < sy) :
    XAns b A n c ts en (d + 1) (.mk kk 0 [] [] [x.pe, y.pe], s) w0 (.returned (pairX kk w.heap.size x y).val) (set5W (w.alloc (.cells #[.int .i64 x.kd, .int .i64 x.n, x.mv, x.nv, x.kv, .int .i64 y.kd, .int .i64 y.n, y.mv, y.nv, y.kv] 26)) g4 (.int .i64 kk) (.int .i64 0) (.slice none 0 0) (.slice none 0 0) (.slice (some ⟨w.heap.size, 0, none⟩) 2 2)) := by
  have hb := h0.blk.lt
  have hl4 := hz.lt
  have hsz := h.only.size
  have hg1 : w.grownBy (w.alloc (.cells #[.int .i64 x.kd, .int .i64 x.n, x.mv, x.nv, x.kv, .int .i64 y.kd, .int .i64 y.n, y.mv, y.nv, y.kv] 26)) (some g4) := only_alloc (World.grownBy.refl w _) _
  have hg2 := set5W_grown (w.alloc (.cells #[.int .i64 x.kd, .int .i64 x.n, x.mv, x.nv, x.kv, .int .i64 y.kd, .int .i64 y.n, y.mv, y.nv, y.kv] 26)) g4 (.int .i64 kk) (.int .i64 0) (.slice none 0 0) (.slice none 0 0) (.slice (some ⟨w.heap.size, 0, none⟩) 2 2)
  have ho : Only b w0 (w.alloc (.cells #[.int .i64 x.kd, .int .i64 x.n, x.mv, x.nv, x.kv, .int .i64 y.kd, .int .i64 y.n, y.mv, y.nv, y.kv] 26)) := h.only.alloc _
  have ho2 : Only b w0 (set5W (w.alloc (.cells #[.int .i64 x.kd, .int .i64 x.n, x.mv, x.nv, x.kv, .int .i64 y.kd, .int .i64 y.n, y.mv, y.nv, y.kv] 26)) g4 (.int .i64 kk) (.int .i64 0) (.slice none 0 0) (.slice none 0 0) (.slice (some ⟨w.heap.size, 0, none⟩) 2 2)) := ho.of_grown hg2 (fun g e => by injection e with e; omega)
  have hrd := (h.rd.alloc (.cells #[.int .i64 x.kd, .int .i64 x.n, x.mv, x.nv, x.kv, .int .i64 y.kd, .int .i64 y.n, y.mv, y.nv, y.kv] 26)).blk.grown hg2 (fun e => by injection e with e; omega)
  have hbk : Blk (w.alloc (.cells #[.int .i64 x.kd, .int .i64 x.n, x.mv, x.nv, x.kv, .int .i64 y.kd, .int .i64 y.n, y.mv, y.nv, y.kv] 26)) w.heap.size 26 (kcells [x, y]) := Blk.mk (heap_alloc_new w _)
  have hbk2 := hbk.grown hg2 (fun e => by injection e with e; omega)
  have k1 := (hx.grown hg1 hsx).grown hg2 hsx
  have k2 := (hy.grown hg1 hsy).grown hg2 hsy
  refine ⟨pairX kk w.heap.size x y, rfl, rfl, okX_far (FarS.nil 3) (FarS.nil 1) (FarS.slc (n := 2) (size := 5) hbk2 (by omega) rfl (by omega)) (fun q hq => ?_), h0.of hrd ho2 h.rd.le, ho2⟩
  rw [List.mem_cons, List.mem_singleton] at hq
  rcases hq with rfl | rfl
  · exact k1.far.mono (fun q _ hq => by omega)
  · exact k2.far.mono (fun q _ hq => by omega)
end Go.Proofs.YtnkbpcenkbihpaaDoor
