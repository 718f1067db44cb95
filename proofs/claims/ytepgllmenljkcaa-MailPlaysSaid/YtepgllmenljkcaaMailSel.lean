/- mail.Box: put, take: a select of one case with a default, in one goroutine. -/
import Derived.Test.YtepgllmenljkcaaProg
import Derived.Test.YtepgllmenljkcaaMem
import Derived.Conc.LoneCalls
import Derived.Conc.LoneSelect
import Derived.KernelRfl
import Derived.Lib.Hide
import Derived.Laws.Rows
namespace Go.Proofs.Ytepgllmenljkcaa
open Go Go.Conc Go.RowKit Go.WideShapes Go.ChangeShapes
set_option linter.unusedVariables false
set_option linter.unusedSimpArgs false
theorem chan_alloc {w : World} {c : Nat} (cap : Nat) (buf : Array Value) (s r : Nat) (o : Obj) (hcl : c < w.heap.size) : Below w.heap.size (w.setChan c cap buf false s r false) ((w.alloc o).setChan c cap buf false s r false) := by
  refine ⟨rfl, rfl, rfl, by simp [size_setChan], fun i hi => ?_⟩
  by_cases e : i = c
  · subst e
    rw [heap_setChan w _ _ _ _ _ _ _ hi, heap_setChan (w.alloc o) _ _ _ _ _ _ _ (by simp; omega)]
  · have e' : c ≠ i := fun h => e h.symm
    simp only [World.setChan]
    rw [Array.getElem?_setIfInBounds_ne e', Array.getElem?_setIfInBounds_ne e']
    exact Below.heap_alloc w o i hi
set_option maxRecDepth 100000 in
theorem mput_room (b c cap s r : Nat) (buf : Array Value) (x y z : Value) (w : World) (h0 : w.cell? ⟨b, 0, none⟩ = some (.chan (some c))) (hb : b < w.heap.size) (hcl : c < w.heap.size) (hc : w.heap[c]? = some (.chan cap buf false s r false)) (hroom : buf.size < cap) :
    Calls Try.prog 18 #[.pointer (some ⟨b, 0, none⟩), .agg #[x, y, z]] w fun e w' => e = .returned (.bool true) ∧ Below w.heap.size (w.setChan c cap (buf.push (.agg #[x, y, z])) false (s + 1) r false) w' := by
  have e0 : (w.alloc (.cells #[x, y, z] 27)).cell? ⟨b, 0, none⟩ = some (.chan (some c)) := (World.cell?_alloc_lt w _ _ hb).trans h0
  have hc1 : (w.alloc (.cells #[x, y, z] 27)).heap[c]? = some (.chan cap buf false s r false) := (Below.heap_alloc w _ c hcl).trans hc
  refine calls_of_loneTo fun cs => ?_
  have e : Frame.enter Try.prog 18 #[.pointer (some ⟨b, 0, none⟩), .agg #[x, y, z]] .normal = (base 18).at ⟨#[.pointer (some ⟨b, 0, none⟩), .agg #[x, y, z], undef, undef, undef, undef, undef, undef, undef, undef, undef, undef, undef], []⟩ [.code (Try.f18.body.getD .skip)] := by
    simp [Frame.enter, Frame.at, Try.func18, base, Try.f18]
  rw [e]
  refine LoneTo.goes (n := 18) ?_
  simp only [Try.f18, Option.getD_some]
  s_c stepG_seq
  s_reg
  s_op
  s_op
  s_c stepG_region_end
  s_c stepG_seq
  s_c stepG_seq
  s_reg
  s_op
  s_op
  s_op
  s_op
  s_c stepG_region_end
  s_reg
  s_op
  s_c stepG_region_end
  s_c stepG_seq
  s_reg
  s_stop
  refine LoneTo.step (step_lone_select_send_room (c := c) (cap := cap) (buf := buf) (s := s) (r := r) (tm := false)
    (stepG_comm (cases := #[scase c (.agg #[x, y, z]) (.agg #[.string ⟨#[]⟩, .string ⟨#[]⟩, .slice none 0 0])]) (blocking := false) (shape := .select) (w' := w.alloc (.cells #[x, y, z] 27)) rfl rfl (by decide) (by simp [go_sem, execOp, scase, Act.eval])) hc1 hroom) ?_
  rw [Frame.finish_at]
  walk_nrm
  refine LoneTo.goes (n := 10) ?_
  s_op
  s_op
  s_c stepG_region_end
  s_c stepG_block
  s_cond true
  s_c stepG_seq
  s_reg
  s_op
  s_c stepG_region_end
  s_c stepG_ret'
  s_stop
  exact LoneTo.done ⟨.returned (.bool true), _, rfl, ⟨rfl, chan_alloc cap _ _ _ _ hcl⟩, rfl, rfl, rfl, rfl, _, Try.func18, by simp [results, Try.f18, Frame.at]⟩
set_option maxRecDepth 100000 in
theorem mput_full (b c cap s r : Nat) (buf : Array Value) (x y z : Value) (w : World) (h0 : w.cell? ⟨b, 0, none⟩ = some (.chan (some c))) (hb : b < w.heap.size) (hcl : c < w.heap.size) (hc : w.heap[c]? = some (.chan cap buf false s r false)) (hfull : cap ≤ buf.size) :
    Calls Try.prog 18 #[.pointer (some ⟨b, 0, none⟩), .agg #[x, y, z]] w fun e w' => e = .returned (.bool false) ∧ Below w.heap.size w w' := by
  have e0 : (w.alloc (.cells #[x, y, z] 27)).cell? ⟨b, 0, none⟩ = some (.chan (some c)) := (World.cell?_alloc_lt w _ _ hb).trans h0
  have hc1 : (w.alloc (.cells #[x, y, z] 27)).heap[c]? = some (.chan cap buf false s r false) := (Below.heap_alloc w _ c hcl).trans hc
  refine calls_of_loneTo fun cs => ?_
  have e : Frame.enter Try.prog 18 #[.pointer (some ⟨b, 0, none⟩), .agg #[x, y, z]] .normal = (base 18).at ⟨#[.pointer (some ⟨b, 0, none⟩), .agg #[x, y, z], undef, undef, undef, undef, undef, undef, undef, undef, undef, undef, undef], []⟩ [.code (Try.f18.body.getD .skip)] := by
    simp [Frame.enter, Frame.at, Try.func18, base, Try.f18]
  rw [e]
  refine LoneTo.goes (n := 18) ?_
  simp only [Try.f18, Option.getD_some]
  s_c stepG_seq
  s_reg
  s_op
  s_op
  s_c stepG_region_end
  s_c stepG_seq
  s_c stepG_seq
  s_reg
  s_op
  s_op
  s_op
  s_op
  s_c stepG_region_end
  s_reg
  s_op
  s_c stepG_region_end
  s_c stepG_seq
  s_reg
  s_stop
  refine LoneTo.step (step_lone_select_send_full (c := c) (cap := cap) (buf := buf) (s := s) (r := r) (tm := false)
    (stepG_comm (cases := #[scase c (.agg #[x, y, z]) (.agg #[.string ⟨#[]⟩, .string ⟨#[]⟩, .slice none 0 0])]) (blocking := false) (shape := .select) (w' := w.alloc (.cells #[x, y, z] 27)) rfl rfl (by decide) (by simp [go_sem, execOp, scase, Act.eval])) hc1 hfull) ?_
  rw [Frame.finish_at]
  walk_nrm
  refine LoneTo.goes (n := 10) ?_
  s_op
  s_op
  s_c stepG_region_end
  s_c stepG_block
  s_cond false
  s_c stepG_seq
  s_reg
  s_op
  s_c stepG_region_end
  s_c stepG_ret'
  s_stop
  exact LoneTo.done ⟨.returned (.bool false), _, rfl, ⟨rfl, (Below.refl _ _).alloc (Nat.le_refl _) _⟩, rfl, rfl, rfl, rfl, _, Try.func18, by simp [results, Try.f18, Frame.at]⟩
theorem build_note (w : World) : Sem.run Try.prog (Instr.build 27 #[]) w = .ok (.agg #[.string ⟨#[]⟩, .string ⟨#[]⟩, .slice none 0 0]) w := by kernel_rfl
set_option maxRecDepth 100000 in
theorem mtake_none (b c cap s r : Nat) (w : World) (h0 : w.cell? ⟨b, 0, none⟩ = some (.chan (some c))) (hb : b < w.heap.size) (hcl : c < w.heap.size) (hc : w.heap[c]? = some (.chan cap #[] false s r false)) :
    Calls Try.prog 19 #[.pointer (some ⟨b, 0, none⟩)] w fun e w' => e = .returned (.tuple #[(.agg #[.string ⟨#[]⟩, .string ⟨#[]⟩, .slice none 0 0]), .bool false]) ∧ Below w.heap.size w w' := by
  have e0 : (w.alloc (.cells #[.string ⟨#[]⟩, .string ⟨#[]⟩, .slice none 0 0] 27)).cell? ⟨b, 0, none⟩ = some (.chan (some c)) := (World.cell?_alloc_lt w _ _ hb).trans h0
  have hc1 : (w.alloc (.cells #[.string ⟨#[]⟩, .string ⟨#[]⟩, .slice none 0 0] 27)).heap[c]? = some (.chan cap #[] false s r false) := (Below.heap_alloc w _ c hcl).trans hc
  have hbd := build_note
  refine calls_of_loneTo fun cs => ?_
  have e : Frame.enter Try.prog 19 #[.pointer (some ⟨b, 0, none⟩)] .normal = (base 19).at ⟨#[.pointer (some ⟨b, 0, none⟩), undef, undef, undef, undef, undef, undef, undef, undef, undef, undef, undef, undef, undef, undef], []⟩ [.code (Try.f19.body.getD .skip)] := by
    simp [Frame.enter, Frame.at, Try.func19, base, Try.f19]
  rw [e]
  refine LoneTo.goes (n := 40) ?_
  simp only [Try.f19, Option.getD_some]
  s_c stepG_seq
  s_reg
  s_op
  s_op
  s_c stepG_region_end
  s_c stepG_seq
  s_reg
  s_op
  s_op
  s_op
  s_op
  s_c stepG_region_end
  s_c stepG_seq
  s_reg
  s_stop
  refine LoneTo.step (step_lone_select_default (c := c) (cap := cap) (s := s) (r := r) (tm := false) (z := (.agg #[.string ⟨#[]⟩, .string ⟨#[]⟩, .slice none 0 0]))
    (stepG_comm (cases := #[rcase c (.agg #[.string ⟨#[]⟩, .string ⟨#[]⟩, .slice none 0 0])]) (blocking := false) (shape := .select) (w' := w.alloc (.cells #[.string ⟨#[]⟩, .string ⟨#[]⟩, .slice none 0 0] 27)) rfl rfl (by decide) (by simp [go_sem, execOp, rcase, Act.eval])) hc1) ?_
  rw [Frame.finish_at]
  walk_nrm
  refine LoneTo.goes (n := 40) ?_
  s_op
  s_op
  s_c stepG_region_end
  s_c stepG_block
  s_cond false
  s_c stepG_seq
  s_reg
  s_op
  s_op
  s_op
  s_c stepG_region_end
  s_c stepG_ret'
  s_stop
  refine LoneTo.done ⟨.returned (.tuple #[(.agg #[.string ⟨#[]⟩, .string ⟨#[]⟩, .slice none 0 0]), .bool false]), _, rfl, ⟨rfl, ?_⟩, rfl, rfl, rfl, rfl, _, Try.func19, ?_⟩
  · exact ((((Below.refl _ _).alloc (Nat.le_refl _) _).setCell (Nat.le_refl _) _).setCell (Nat.le_refl _) _).setCell (Nat.le_refl _) _
  · simp [results, Try.f19, Frame.at, go_sem]
set_option maxRecDepth 100000 in
theorem mtake_some (b c cap s r : Nat) (buf : Array Value) (x y : ByteArray) (A : Option Addr) (n k : Nat) (w : World) (h0 : w.cell? ⟨b, 0, none⟩ = some (.chan (some c))) (hb : b < w.heap.size) (hcl : c < w.heap.size) (hc : w.heap[c]? = some (.chan cap buf false s r false)) (hn : 0 < buf.size) (hx : buf.getD 0 undef = .agg #[.string x, .string y, .slice A n k]) :
    Calls Try.prog 19 #[.pointer (some ⟨b, 0, none⟩)] w fun e w' => e = .returned (.tuple #[.agg #[.string x, .string y, .slice A n k], .bool true]) ∧ Below w.heap.size (w.setChan c cap (buf.extract 1 buf.size) false s (r + 1) false) w' := by
  have e0 : (w.alloc (.cells #[.string ⟨#[]⟩, .string ⟨#[]⟩, .slice none 0 0] 27)).cell? ⟨b, 0, none⟩ = some (.chan (some c)) := (World.cell?_alloc_lt w _ _ hb).trans h0
  have hc1 : (w.alloc (.cells #[.string ⟨#[]⟩, .string ⟨#[]⟩, .slice none 0 0] 27)).heap[c]? = some (.chan cap buf false s r false) := (Below.heap_alloc w _ c hcl).trans hc
  refine calls_of_loneTo fun cs => ?_
  have e : Frame.enter Try.prog 19 #[.pointer (some ⟨b, 0, none⟩)] .normal = (base 19).at ⟨#[.pointer (some ⟨b, 0, none⟩), undef, undef, undef, undef, undef, undef, undef, undef, undef, undef, undef, undef, undef, undef], []⟩ [.code (Try.f19.body.getD .skip)] := by
    simp [Frame.enter, Frame.at, Try.func19, base, Try.f19]
  rw [e]
  refine LoneTo.goes (n := 40) ?_
  simp only [Try.f19, Option.getD_some]
  s_c stepG_seq
  s_reg
  s_op
  s_op
  s_c stepG_region_end
  s_c stepG_seq
  s_reg
  s_op
  s_op
  s_op
  s_op
  s_c stepG_region_end
  s_c stepG_seq
  s_reg
  s_stop
  refine LoneTo.step (step_lone_select_recv_buf (c := c) (cap := cap) (buf := buf) (s := s) (r := r) (closed := false) (tm := false) (z := (.agg #[.string ⟨#[]⟩, .string ⟨#[]⟩, .slice none 0 0]))
    (stepG_comm (cases := #[rcase c (.agg #[.string ⟨#[]⟩, .string ⟨#[]⟩, .slice none 0 0])]) (blocking := false) (shape := .select) (w' := w.alloc (.cells #[.string ⟨#[]⟩, .string ⟨#[]⟩, .slice none 0 0] 27)) rfl rfl (by decide) (by simp [go_sem, execOp, rcase, Act.eval])) hc1 hn) ?_
  rw [Frame.finish_at, hx]
  walk_nrm
  have hZ0 : Blk (w.alloc (.cells #[.string ⟨#[]⟩, .string ⟨#[]⟩, .slice none 0 0] 27)) w.heap.size 27 [.string ⟨#[]⟩, .string ⟨#[]⟩, .slice none 0 0] := Blk.mk (heap_alloc_new w _)
  have hB := chan_alloc cap (buf.extract 1 buf.size) s (r + 1) (.cells #[.string ⟨#[]⟩, .string ⟨#[]⟩, .slice none 0 0] 27) hcl
  have hsz := size_setChan (w.alloc (.cells #[.string ⟨#[]⟩, .string ⟨#[]⟩, .slice none 0 0] 27)) c cap (buf.extract 1 buf.size) false s (r + 1) false
  have hZ : Blk ((w.alloc (.cells #[.string ⟨#[]⟩, .string ⟨#[]⟩, .slice none 0 0] 27)).setChan c cap (buf.extract 1 buf.size) false s (r + 1) false) w.heap.size 27 [.string ⟨#[]⟩, .string ⟨#[]⟩, .slice none 0 0] := by
    refine Eq.trans ?_ hZ0
    simp only [World.setChan]
    exact Array.getElem?_setIfInBounds_ne (by omega)
  obtain ⟨W, hW⟩ : ∃ W, (w.alloc (.cells #[.string ⟨#[]⟩, .string ⟨#[]⟩, .slice none 0 0] 27)).setChan c cap (buf.extract 1 buf.size) false s (r + 1) false = W := ⟨_, rfl⟩
  rw [hW] at hB hsz hZ
  rw [hW]
  clear hW hZ0 hc1 e0
  simp only [World.size_alloc] at hsz
  have HSZ := Lib.hid hsz
  clear hsz
  refine LoneTo.goes (n := 40) ?_
  s_op
  s_op
  s_c stepG_region_end
  s_c stepG_block
  s_cond true
  s_c stepG_seq
  s_reg
  s_op
  s_op
  s_op
  have hne : w.heap.size ≠ W.heap.size := by have := HSZ.out; omega
  have hge : w.heap.size ≤ W.heap.size := by have := HSZ.out; omega
  have h1 := (((Blk.mk (heap_alloc_new W (.cells #[.string ⟨#[]⟩, .string ⟨#[]⟩, .slice none 0 0] 27)) : Blk _ _ 27 [.string ⟨#[]⟩, .string ⟨#[]⟩, .slice none 0 0]).set 0 (.string x)).set 1 (.string y)).set 2 (.slice A n k)
  have h0 := (((hZ.alloc (.cells #[.string ⟨#[]⟩, .string ⟨#[]⟩, .slice none 0 0] 27)).far (p := ⟨W.heap.size, 0, none⟩) hne (.string x)).far (p := ⟨W.heap.size, 1, none⟩) hne (.string y)).far (p := ⟨W.heap.size, 2, none⟩) hne (.slice A n k)
  have hB1 := (((hB.alloc hge (.cells #[.string ⟨#[]⟩, .string ⟨#[]⟩, .slice none 0 0] 27)).setCell (p := ⟨W.heap.size, 0, none⟩) hge (.string x)).setCell (p := ⟨W.heap.size, 1, none⟩) hge (.string y)).setCell (p := ⟨W.heap.size, 2, none⟩) hge (.slice A n k)
  obtain ⟨W1, hW1⟩ : ∃ W1, (((W.alloc (.cells #[.string ⟨#[]⟩, .string ⟨#[]⟩, .slice none 0 0] 27)).setCell ⟨W.heap.size, 0, none⟩ (.string x)).setCell ⟨W.heap.size, 1, none⟩ (.string y)).setCell ⟨W.heap.size, 2, none⟩ (.slice A n k) = W1 := ⟨_, rfl⟩
  rw [hW1] at h1 h0 hB1
  rw [hW1]
  clear hW1 hZ hB hne hge HSZ
  simp only [List.set_cons_zero, List.set_cons_succ] at h1
  have y0 := h1.cell 0; have y1 := h1.cell 1; have y2 := h1.cell 2
  have z0 := h0.cell 0; have z1 := h0.cell 1; have z2 := h0.cell 2
  have f0 := h0.frozen 0; have f1 := h0.frozen 1; have f2 := h0.frozen 2
  simp only [List.getElem?_cons_zero, List.getElem?_cons_succ] at z0 z1 z2 y0 y1 y2
  s_c stepG_region_end
  s_c stepG_seq
  s_reg
  s_op
  s_op
  s_op
  s_c stepG_region_end
  s_c stepG_ret'
  s_stop
  refine LoneTo.done ⟨.returned (.tuple #[.agg #[.string x, .string y, .slice A n k], .bool true]), _, rfl, ⟨rfl, ?_⟩, rfl, rfl, rfl, rfl, _, Try.func19, ?_⟩
  · exact ((hB1.setCell (Nat.le_refl _) _).setCell (Nat.le_refl _) _).setCell (Nat.le_refl _) _
  · simp [results, Try.f19, Frame.at, go_sem, z0, z1, z2]
end Go.Proofs.Ytepgllmenljkcaa
