/- LexJoin: what its loops keep. -/
import Derived.Test.YtealflkblkfhbaaDoorLexTells
import Derived.Test.YtealflkblkfhbaaDoorPrintCut
namespace Go.Proofs.YtealflkblkfhbaaDoor
open Go.ChangeShapes Go.WideShapes Go.ChangeAt Go.RowKit
set_option linter.unusedVariables false
set_option linter.unusedSimpArgs false
set_option maxRecDepth 100000
/-- A text of an expression of numbers, and its tokens. -/
def TextToks (w : World) (e : Ending) (w' : World) : Prop := ∃ (T : ByteArray) (ts : List Tok), e = .returned (.string T) ∧ T.size ≤ 32000 ∧ CutR T.data.toList ts [] ∧ ts.length ≤ 237 ∧ Below w.heap.size w w'
theorem keepV_cutr {x : XE} (h : keepV 5 x) : ∃ ts, CutR (printX 5 x) ts [] ∧ ts.length ≤ 237 := by
  obtain ⟨n, hn, hc⟩ := keepV_cuts 5 x h
  obtain ⟨ts, h1, h2⟩ := hc [] (fun c r e => by cases e)
  have h3 : (2 : Nat) ^ 5 = 32 := rfl
  exact ⟨ts, h1, by omega⟩
theorem text_toks {x : XE} {w : World} (hok : okX 5 x w) (hk : keepV 5 x) : Calls Tryd.prog 9 #[x.val] w (TextToks w) := by
  obtain ⟨ts, h1, h2⟩ := keepV_cutr hk
  exact (text_any x w hok hk).mono fun e w' h => ⟨_, ts, h.1, by
    show (printX 5 x).toArray.size ≤ 32000
    rw [List.size_toArray]; exact printV_len hk, h1, h2, h.2⟩
theorem okTok_TokOk {t : Tok} (h : okTok t) : TokOk t := by
  rcases h with ⟨_, h1, h2⟩ | ⟨_, h1, c, r, e, _, _, hl⟩ | ⟨_, h1, h2⟩ | ⟨_, h1, h2⟩
  · unfold I64 at h1
    exact ⟨by rw [h2]; decide, h1.1, h1.2⟩
  · refine ⟨?_, by omega, by omega⟩
    have h2 := congrArg List.length e
    rw [ba_len, List.length_cons] at h2
    omega
  · exact ⟨by omega, by omega, by omega⟩
  · refine ⟨?_, by omega, by omega⟩
    have : ∀ x ∈ signsL, x.size ≤ 2 := by decide
    have := this _ h2
    omega
/-- A token's cells. -/
def TokAt (V : World) (ad : Addr) (k : Nat) (kd nn a : Int) (tx : ByteArray) : Prop :=
  V.cell? (ad.add (k * 4)) = some (.int .i64 kd) ∧ V.cell? ⟨(ad.add (k * 4)).block, (ad.add (k * 4)).off + 1, none⟩ = some (.int .i64 nn) ∧ V.cell? ⟨(ad.add (k * 4)).block, (ad.add (k * 4)).off + 2, none⟩ = some (.int .i64 a) ∧ V.cell? ⟨(ad.add (k * 4)).block, (ad.add (k * 4)).off + 3, none⟩ = some (.string tx)
theorem Sees.tokAt {V : World} {B : Nat} {ad : Addr} {n : Nat} {l : List Tok} (h : Sees V B 4 (some ad) n (tcells l)) {k : Nat} (hk : k < n) (hl : k < l.length) : TokAt V ad k l[k].kd l[k].n l[k].at_ l[k].tx := by
  obtain ⟨ad', _, h1, h2, h3, h4, h5⟩ := h.tok hk
  injection h1 with h1
  subst h1
  exact ⟨h2, h3, h4, h5⟩
/-- What the last loop keeps. -/
def LpAt (B B' : Nat) (A6 : Option Addr) (us : List Tok) (A : Option Addr) (L : List Tok) (n : Nat) (w0 V : World) : Prop :=
  Sees V B 4 A6 n (tcells us) ∧ Sees V B' 4 A n (tcells L) ∧ Below w0.heap.size w0 V ∧ B ≤ V.heap.size ∧ B' ≤ V.heap.size ∧ w0.heap.size ≤ V.heap.size
theorem LpAt.below {B B' : Nat} {A6 A : Option Addr} {us L : List Tok} {n : Nat} {w0 V V' : World} (h : LpAt B B' A6 us A L n w0 V) (hb : Below V.heap.size V V') : LpAt B B' A6 us A L n w0 V' :=
  ⟨h.1.below (hb.mono h.2.2.2.1), h.2.1.below (hb.mono h.2.2.2.2.1), h.2.2.1.trans (hb.mono h.2.2.2.2.2), Nat.le_trans h.2.2.2.1 hb.size, Nat.le_trans h.2.2.2.2.1 hb.size, Nat.le_trans h.2.2.2.2.2 hb.size⟩
/-- Tokens in a row of the law's own, the arguments as they were. -/
structure JAt (w0 : World) (A1 : Option Addr) (n1 : Nat) (zs : List Int) (A2 : Option Addr) (n2 : Nat) (xs : List ByteArray) (A : Option Addr) (n c : Nat) (L : List Tok) (w : World) : Prop where
  row : w.ownsRow w0.heap.size 27 4 (.slice A n c) n (tcells L)
  len : L.length = n
  bel : Below w0.heap.size w0 w
  z : Sees w w0.heap.size 1 A1 n1 (ints zs)
  x : Sees w w0.heap.size 1 A2 n2 (strs xs)
  ok : ∀ t ∈ L, okTok t
section
variable {w0 w w' w3 : World} {A1 : Option Addr} {n1 : Nat} {zs : List Int} {A2 : Option Addr} {n2 : Nat} {xs : List ByteArray} {A A3 : Option Addr} {n c c3 : Nat} {L : List Tok}
theorem JAt.below (h : JAt w0 A1 n1 zs A2 n2 xs A n c L w) (hb : Below w.heap.size w w') : JAt w0 A1 n1 zs A2 n2 xs A n c L w' :=
  ⟨own_below h.row hb (Nat.le_refl _), h.len, h.bel.trans (hb.mono h.bel.size), h.z.below (hb.mono h.bel.size), h.x.below (hb.mono h.bel.size), h.ok⟩
theorem JAt.alloc (h : JAt w0 A1 n1 zs A2 n2 xs A n c L w) (o : Obj) : JAt w0 A1 n1 zs A2 n2 xs A n c L (w.alloc o) := h.below ((Below.refl _ _).alloc (Nat.le_refl _) o)
theorem JAt.drew (h : JAt w0 A1 n1 zs A2 n2 xs A n c L w) : JAt w0 A1 n1 zs A2 n2 xs A n c L w.drew := h.below (Below.refl _ _).drew
theorem JAt.next (h : JAt w0 A1 n1 zs A2 n2 xs A n c L w) {t : Tok} (ht : okTok t) (hown : w3.ownsRow w0.heap.size 27 4 (.slice A3 (n + 1) c3) (n + 1) (tcells L ++ [.int .i64 t.kd, .int .i64 t.n, .int .i64 t.at_, .string t.tx])) (hg : w.grownBy w3 (Value.slice A n c).ownBlock) :
    JAt w0 A1 n1 zs A2 n2 xs A3 (n + 1) c3 (L ++ [t]) w3 := by
  have hr : ∀ g, (Value.slice A n c).ownBlock = some g → w0.heap.size ≤ g := fun g hg => (h.row.lt g hg).1
  refine ⟨by rw [tcells_append]; exact hown, by rw [List.length_append, h.len]; rfl, h.bel.grown hg h.bel.size hr, h.z.grown hg h.bel.size hr, h.x.grown hg h.bel.size hr, fun x hx => ?_⟩
  rcases List.mem_append.1 hx with hx | hx
  · exact h.ok x hx
  · rw [List.mem_singleton] at hx; subst hx; exact ht
end
end Go.Proofs.YtealflkblkfhbaaDoor
