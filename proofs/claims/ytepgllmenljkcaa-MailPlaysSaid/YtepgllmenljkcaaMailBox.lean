/- mail.Box: its state; put, take, Take, Len, Dropped, New; clone.Note. -/
import Derived.Test.YtepgllmenljkcaaMailSel
import Derived.Test.YtepgllmenljkcaaSameStr
import Derived.Test.YtepgllmenljkcaaFresh
import Derived.Conc.LoneSelectN
import Derived.Deep.QuietTactic
import Derived.BigQuiet
import Derived.Deep.DeepCutAuto
import Derived.Deep.RegionHeld3
import Derived.Maps.AppendAt
import Derived.Outline
namespace Go.Proofs.Ytepgllmenljkcaa
open Go.ChangeShapes Go.WideShapes Go.ChangeAt Go.RowKit
set_option linter.unusedVariables false
set_option linter.unusedSimpArgs false
set_option maxRecDepth 100000
/-- A note's value: its texts, and where its alerts lie. -/
structure NV where
  dst : ByteArray
  group : ByteArray
  A : Option Addr
  c : Nat
  al : List ByteArray
def NV.cells (x : NV) : List Value := [.string x.dst, .string x.group, .slice x.A x.al.length x.c]
abbrev NV.val (x : NV) : Value := .agg #[.string x.dst, .string x.group, .slice x.A x.al.length x.c]
def NV.key (x : NV) : ByteArray × ByteArray × List ByteArray := (x.dst, x.group, x.al)
def NV.zero : NV := ⟨⟨#[]⟩, ⟨#[]⟩, none, 0, []⟩
/-- A slice that isn't empty lies in a block of this element type. -/
def Typed (w : World) (t : TypeId) (A : Option Addr) (n : Nat) : Prop := ∀ ad, A = some ad → 0 < n → ∃ cs f, w.heap[ad.block]? = some (.cells cs t f)
theorem Typed.below {w w' : World} {t : TypeId} {A : Option Addr} {n B : Nat} (h : Typed w t A n) (hb : Below B w w') (hl : ∀ ad, A = some ad → 0 < n → ad.block < B) : Typed w' t A n := fun ad ha hn => by
  obtain ⟨cs, f, e⟩ := h ad ha hn
  exact ⟨cs, f, (hb.block ad.block (hl ad ha hn)).trans e⟩
theorem Typed.of_own {w : World} {base : Nat} {t : TypeId} {size n c : Nat} {A : Option Addr} {xs : List Value} (h : w.ownsRow base t size (.slice A n c) n xs) : Typed w t A n := fun ad ha hn => by
  rcases h.2 with ⟨h1, _⟩ | ⟨g, cap, cur, hv, _, hh, _⟩
  · injection h1 with _ h1 _; omega
  · injection hv with hv; rw [ha] at hv; injection hv with hv; rw [hv]; exact ⟨_, _, hh⟩
theorem Typed.ne {w : World} {t t' : TypeId} {A : Option Addr} {n g : Nat} {cs : List Value} (h : Typed w t A n) (hk : Blk w g t' cs) (ht : t' ≠ t) : ∀ ad, A = some ad → 0 < n → ad.block ≠ g := fun ad ha hn e => by
  obtain ⟨cs, f, e2⟩ := h ad ha hn
  rw [e, hk.eq] at e2
  injection e2 with e2; injection e2 with _ e2 _
  exact ht e2
theorem sees_lt {w : World} {B size n : Nat} {A : Option Addr} {xs : List Value} (h : Sees w B size A n xs) : ∀ ad, A = some ad → 0 < n → ad.block < B := fun ad ha hn => by
  obtain ⟨ad', e, hb, _⟩ := h.at_ hn
  rw [ha] at e; injection e with e; subst e; exact hb
theorem box_ne_string : (46 : TypeId) ≠ 9 := by decide
theorem box_ne_note : (46 : TypeId) ≠ 27 := by decide
/-- What a call on a box may write. -/
structure MWr (b c : Nat) (w w' : World) : Prop where
  os : w'.os = w.os
  tape : w'.tape = w.tape
  output : w'.output = w.output
  size : w.heap.size ≤ w'.heap.size
  block : ∀ i, i < w.heap.size → i ≠ b → i ≠ c → w'.heap[i]? = w.heap[i]?
section
variable {b c : Nat} {w0 w w' w'' : World}
theorem MWr.refl (w : World) : MWr b c w w := ⟨rfl, rfl, rfl, Nat.le_refl _, fun _ _ _ _ => rfl⟩
theorem MWr.trans (h : MWr b c w w') (h2 : MWr b c w' w'') : MWr b c w w'' := ⟨h2.os.trans h.os, h2.tape.trans h.tape, h2.output.trans h.output, Nat.le_trans h.size h2.size, fun i hi h3 h4 => (h2.block i (Nat.lt_of_lt_of_le hi h.size) h3 h4).trans (h.block i hi h3 h4)⟩
theorem MWr.of_below (h : Below w.heap.size w w') : MWr b c w w' := ⟨h.os, h.tape, h.output, h.size, fun i hi _ _ => h.block i hi⟩
theorem MWr.chan (w : World) (cap : Nat) (buf : Array Value) (s r : Nat) : MWr b c w (w.setChan c cap buf false s r false) := ⟨rfl, rfl, rfl, by simp [Conc.size_setChan], fun i hi _ h => by
  have e : c ≠ i := fun e => h e.symm
  simp only [World.setChan]
  exact Array.getElem?_setIfInBounds_ne e⟩
theorem MWr.set (w : World) (i : Nat) (u : Value) : MWr b c w (w.setCell ⟨b, i, none⟩ u) := ⟨rfl, rfl, rfl, by simp, fun j _ h _ => Below.heap_setCell w _ u j h⟩
theorem MWr.bel (h : MWr b c w w') (hB : Below w0.heap.size w0 w) (hb : w0.heap.size ≤ b) (hc : w0.heap.size ≤ c) : Below w0.heap.size w0 w' :=
  hB.trans ⟨h.os, h.tape, h.output, Nat.le_trans hB.size h.size |> fun _ => h.size, fun i hi => h.block i (Nat.lt_of_lt_of_le hi hB.size) (by omega) (by omega)⟩
end
/-- A note's alerts are there. -/
structure NOk (w : World) (x : NV) : Prop where
  sees : Sees w w.heap.size 1 x.A x.al.length (strs x.al)
  typed : Typed w 9 x.A x.al.length
  caps : x.al.length ≤ x.c ∧ x.c ≤ 9223372036854775807
theorem NOk.below {w w' : World} {x : NV} (h : NOk w x) (hb : Below w.heap.size w w') : NOk w' x := ⟨(h.sees.below hb).more hb.size, h.typed.below hb (sees_lt h.sees), h.caps⟩
theorem NOk.zero (w : World) : NOk w NV.zero := ⟨Sees.nil, (fun _ h => by cases h), Nat.le_refl _, by simp [NV.zero]⟩
/-- Not the box's blocks. -/
def NotBC (w : World) (b c : Nat) : Prop := (∃ cs, Blk w b 46 cs) ∧ ∃ cap buf s r, w.heap[c]? = some (.chan cap buf false s r false)
theorem Typed.bc {w : World} {b c : Nat} {t : TypeId} {A : Option Addr} {n : Nat} (h : Typed w t A n) (hn : NotBC w b c) (ht : 46 ≠ t) : ∀ ad, A = some ad → 0 < n → ad.block ≠ b ∧ ad.block ≠ c := fun ad ha hp => by
  obtain ⟨⟨cs, hb⟩, cap, buf, s, r, hc⟩ := hn
  refine ⟨h.ne hb ht ad ha hp, fun e => ?_⟩
  obtain ⟨cs, f, e2⟩ := h ad ha hp
  rw [e, hc] at e2
  cases e2
theorem Sees.mwr {w w' : World} {b c size n : Nat} {A : Option Addr} {xs : List Value} (h : Sees w w.heap.size size A n xs) (hne : ∀ ad, A = some ad → 0 < n → ad.block ≠ b ∧ ad.block ≠ c) (hw : MWr b c w w') : Sees w' w'.heap.size size A n xs := ⟨h.len, fun hn => by
  obtain ⟨ad, e, hlt, hcell⟩ := h.at_ hn
  have hz := hw.size
  refine ⟨ad, e, by omega, fun j v hv => (World.cell?_of_block (w := w) (a := ad.add j) ?_).trans (hcell j v hv)⟩
  rw [add_block]
  exact hw.block ad.block hlt (hne ad e hn).1 (hne ad e hn).2⟩
theorem Typed.mwr {w w' : World} {b c n : Nat} {t : TypeId} {A : Option Addr} (h : Typed w t A n) (hl : ∀ ad, A = some ad → 0 < n → ad.block < w.heap.size) (hne : ∀ ad, A = some ad → 0 < n → ad.block ≠ b ∧ ad.block ≠ c) (hw : MWr b c w w') : Typed w' t A n := fun ad ha hn => by
  obtain ⟨cs, f, e⟩ := h ad ha hn
  exact ⟨cs, f, (hw.block ad.block (hl ad ha hn) (hne ad ha hn).1 (hne ad ha hn).2).trans e⟩
theorem NOk.mwr {w w' : World} {b c : Nat} {x : NV} (h : NOk w x) (hn : NotBC w b c) (hw : MWr b c w w') : NOk w' x :=
  ⟨h.sees.mwr (h.typed.bc hn box_ne_string) hw, h.typed.mwr (sees_lt h.sees) (h.typed.bc hn box_ne_string) hw, h.caps⟩
/-- A box. -/
structure BAt (b c cap : Nat) (d : Int) (l : List NV) (w : World) : Prop where
  box : Blk w b 46 [.chan (some c), .int .i64 d]
  ch : ∃ s r, w.heap[c]? = some (.chan cap (l.map NV.val).toArray false s r false)
  few : l.length ≤ cap
  notes : ∀ x ∈ l, NOk w x
section
variable {b c cap : Nat} {d : Int} {l : List NV} {w w' : World}
theorem BAt.bc (h : BAt b c cap d l w) : NotBC w b c := by
  obtain ⟨s, r, hc⟩ := h.ch
  exact ⟨⟨_, h.box⟩, _, _, s, r, hc⟩
theorem BAt.clt (h : BAt b c cap d l w) : c < w.heap.size := by
  obtain ⟨s, r, hc⟩ := h.ch
  exact (Array.getElem?_eq_some_iff.1 hc).1
theorem BAt.ne (h : BAt b c cap d l w) : b ≠ c := fun e => by
  obtain ⟨s, r, hc⟩ := h.ch
  have := h.box.eq
  rw [e, hc] at this
  cases this
theorem BAt.below (h : BAt b c cap d l w) (hb : Below w.heap.size w w') : BAt b c cap d l w' := by
  obtain ⟨s, r, hc⟩ := h.ch
  exact ⟨h.box.below hb h.box.lt, ⟨s, r, (hb.block c h.clt).trans hc⟩, h.few, fun x hx => (h.notes x hx).below hb⟩
theorem BAt.alloc (h : BAt b c cap d l w) (o : Obj) : BAt b c cap d l (w.alloc o) := h.below ((Below.refl _ _).alloc (Nat.le_refl _) o)
/-- The channel is turned. -/
theorem BAt.turn (h : BAt b c cap d l w) (l' : List NV) (s r : Nat) (hl : l'.length ≤ cap) (hx : ∀ x ∈ l', NOk w x) : BAt b c cap d l' (w.setChan c cap (l'.map NV.val).toArray false s r false) := by
  have hm : MWr b c w (w.setChan c cap (l'.map NV.val).toArray false s r false) := MWr.chan w cap _ s r
  refine ⟨?_, ⟨s, r, Conc.heap_setChan _ _ _ _ _ _ _ _ h.clt⟩, hl, fun x h2 => (hx x h2).mwr h.bc hm⟩
  refine Eq.trans ?_ h.box
  simp only [World.setChan]
  exact Array.getElem?_setIfInBounds_ne (Ne.symm h.ne)
/-- The count is turned. -/
theorem BAt.count (h : BAt b c cap d l w) (d' : Int) : BAt b c cap d' l (w.setCell ⟨b, 1, none⟩ (.int .i64 d')) := by
  obtain ⟨s, r, hc⟩ := h.ch
  exact ⟨h.box.set 1 _, ⟨s, r, (Below.heap_setCell w _ _ c (Ne.symm h.ne)).trans hc⟩, h.few, fun x hx => (h.notes x hx).mwr h.bc (MWr.set w 1 _)⟩
theorem bcells (h : BAt b c cap d l w) : w.cell? ⟨b, 0, none⟩ = some (.chan (some c)) ∧ w.cell? ⟨b, 1, none⟩ = some (.int .i64 d) ∧ w.frozen? ⟨b, 1, none⟩ = false := ⟨h.box.cell 0, h.box.cell 1, h.box.frozen 1⟩
end
theorem put_yes (b c cap : Nat) (d : Int) (l : List NV) (x : NV) (w : World) (h : BAt b c cap d l w) (hx : NOk w x) (hl : l.length < cap) :
    Calls Try.prog 18 #[.pointer (some ⟨b, 0, none⟩), x.val] w fun e w' => e = .returned (.bool true) ∧ BAt b c cap d (l ++ [x]) w' ∧ MWr b c w w' := by
  obtain ⟨s, r, hc⟩ := h.ch
  refine (mput_room b c cap s r _ _ _ _ w (bcells h).1 h.box.lt h.clt hc (by simpa using hl)).mono ?_
  rintro e w' ⟨rfl, hb⟩
  have e1 : (l.map NV.val).toArray.push x.val = ((l ++ [x]).map NV.val).toArray := by simp
  have hb2 : Below (w.setChan c cap ((l ++ [x]).map NV.val).toArray false (s + 1) r false).heap.size (w.setChan c cap ((l ++ [x]).map NV.val).toArray false (s + 1) r false) w' := by
    rw [← e1, Conc.size_setChan]; exact hb
  refine ⟨rfl, (h.turn (l ++ [x]) (s + 1) r (by simp; omega) (fun y hy => ?_)).below hb2, (MWr.chan w cap _ (s + 1) r).trans (MWr.of_below hb2)⟩
  rcases List.mem_append.1 hy with hy | hy
  · exact h.notes y hy
  · rw [List.mem_singleton.1 hy]; exact hx
theorem put_no (b c cap : Nat) (d : Int) (l : List NV) (x : NV) (w : World) (h : BAt b c cap d l w) (hl : l.length = cap) :
    Calls Try.prog 18 #[.pointer (some ⟨b, 0, none⟩), x.val] w fun e w' => e = .returned (.bool false) ∧ BAt b c cap d l w' ∧ Below w.heap.size w w' := by
  obtain ⟨s, r, hc⟩ := h.ch
  refine (mput_full b c cap s r _ _ _ _ w (bcells h).1 h.box.lt h.clt hc (by simp; omega)).mono ?_
  rintro e w' ⟨rfl, hb⟩
  exact ⟨rfl, h.below hb, hb⟩
theorem take_yes (b c cap : Nat) (d : Int) (x : NV) (l : List NV) (w : World) (h : BAt b c cap d (x :: l) w) :
    Calls Try.prog 19 #[.pointer (some ⟨b, 0, none⟩)] w fun e w' => e = .returned (.tuple #[x.val, .bool true]) ∧ BAt b c cap d l w' ∧ NOk w' x ∧ MWr b c w w' := by
  obtain ⟨s, r, hc⟩ := h.ch
  refine (mtake_some b c cap s r _ x.dst x.group x.A x.al.length x.c w (bcells h).1 h.box.lt h.clt hc (by simp) rfl).mono ?_
  rintro e w' ⟨rfl, hb⟩
  have e1 : ((x :: l).map NV.val).toArray.extract 1 ((x :: l).map NV.val).toArray.size = (l.map NV.val).toArray := by
    simp
    exact List.take_of_length_le (by simp)
  have hb2 : Below (w.setChan c cap (l.map NV.val).toArray false s (r + 1) false).heap.size (w.setChan c cap (l.map NV.val).toArray false s (r + 1) false) w' := by
    rw [← e1, Conc.size_setChan]; exact hb
  have hm : MWr b c w w' := (MWr.chan w cap _ s (r + 1)).trans (MWr.of_below hb2)
  have hf := h.few
  simp only [List.length_cons] at hf
  exact ⟨rfl, (h.turn l s (r + 1) (by omega) (fun y hy => h.notes y (List.mem_cons_of_mem _ hy))).below hb2, (h.notes x List.mem_cons_self).mwr h.bc hm, hm⟩
theorem take_no (b c cap : Nat) (d : Int) (w : World) (h : BAt b c cap d [] w) :
    Calls Try.prog 19 #[.pointer (some ⟨b, 0, none⟩)] w fun e w' => e = .returned (.tuple #[NV.zero.val, .bool false]) ∧ BAt b c cap d [] w' ∧ Below w.heap.size w w' := by
  obtain ⟨s, r, hc⟩ := h.ch
  refine (mtake_none b c cap s r w (bcells h).1 h.box.lt h.clt hc).mono ?_
  rintro e w' ⟨rfl, hb⟩
  exact ⟨rfl, h.below hb, hb⟩
theorem blen_any (b c cap : Nat) (d : Int) (l : List NV) (w : World) (h : BAt b c cap d l w) :
    Calls Try.prog 10 #[.pointer (some ⟨b, 0, none⟩)] w fun e w' => e = .returned (.int .i64 l.length) ∧ w = w' := by
  obtain ⟨s, r, hc⟩ := h.ch
  obtain ⟨e0, _, _⟩ := bcells h
  have hlen := fun ty => Conc.run_len_chan (P := Try.prog) 44 ty Try.underlying44 hc
  have e1 : (l.map NV.val).toArray.size = l.length := by simp
  rw [e1] at hlen
  clear hc h e1
  go_enter Try.func10, Try.ntmps10
  go_wp2_with fail
  go_ret
  exact ⟨rfl, rfl⟩
theorem bdropped_any (b c cap : Nat) (d : Int) (l : List NV) (w : World) (h : BAt b c cap d l w) :
    Calls Try.prog 11 #[.pointer (some ⟨b, 0, none⟩)] w fun e w' => e = .returned (.int .i64 d) ∧ w = w' := by
  obtain ⟨_, e1, _⟩ := bcells h
  clear h
  go_enter Try.func11, Try.ntmps11
  go_wp2_with fail
  go_ret
  exact ⟨rfl, rfl⟩
end Go.Proofs.Ytepgllmenljkcaa
