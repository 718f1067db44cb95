/- The walk of MuteRuns. -/
import Derived.Test.YtfcjalojgmpnoaaMuteRight
namespace Go.Proofs.Ytfcjalojgmpnoaa
open Go.ChangeShapes Go.WideShapes Go.ChangeAt Go.RowKit
set_option linter.unusedVariables false
set_option linter.unusedSimpArgs false
set_option maxRecDepth 100000
theorem inhs_one {W : World} (h : Inh) (h1 : HasM W h.vs h.src) (h2 : HasM W h.vd h.dst) (h3 : HasS W h.ve h.eq) :
    InhsAt (W.alloc (.cells #[h.vs, h.vd, h.ve] 29)) (some ⟨W.heap.size, 0, none⟩) 1 [h] := by
  have hb := (Below.refl W.heap.size W).alloc (Nat.le_refl _) (.cells #[h.vs, h.vd, h.ve] 29)
  refine ⟨(Blk.mk (heap_alloc_new W _) : Blk _ W.heap.size 29 [h.vs, h.vd, h.ve]).sees rfl (List.prefix_refl _), fun x hx => ?_, fun x hx => ?_, fun x hx => ?_⟩ <;> (rw [List.mem_singleton] at hx; subst hx)
  · exact h1.below hb
  · exact h2.below hb
  · exact h3.below hb
theorem sils_one {W : World} (s : Sil) (h1 : HasM W s.v s.ms) :
    SilsAt (W.alloc (.cells #[s.v, .int .i64 s.f, .int .i64 s.t] 31)) (some ⟨W.heap.size, 0, none⟩) 1 [s] := by
  have hb := (Below.refl W.heap.size W).alloc (Nat.le_refl _) (.cells #[s.v, .int .i64 s.f, .int .i64 s.t] 31)
  refine ⟨(Blk.mk (heap_alloc_new W _) : Blk _ W.heap.size 31 [s.v, .int .i64 s.f, .int .i64 s.t]).sees rfl (List.prefix_refl _), fun x hx => ?_⟩
  rw [List.mem_singleton] at hx; subst hx
  exact h1.below hb
def mrA : List Lbl := [(⟨#[97]⟩, ⟨#[120]⟩)]
def mrB : List Lbl := [(⟨#[97]⟩, ⟨#[120]⟩), (⟨#[98]⟩, ⟨#[49]⟩)]
abbrev mrMA : List Mtc := [(⟨#[97]⟩, ⟨#[120]⟩, 1)]
abbrev mrMB : List Mtc := [(⟨#[98]⟩, ⟨#[49]⟩, 1)]
def mrH (a b c : Value) : Inh := ⟨a, mrMB, b, mrMA, c, [⟨#[97]⟩]⟩
def mrS (a : Value) : Sil := ⟨a, mrMB, 5, 9⟩
theorem mr1 (a b c : Value) : inhF [mrA, mrB] mrA [mrH a b c] = true := by
  show inhF [mrA, mrB] mrA [mrH (.int .i64 0) (.int .i64 0) (.int .i64 0)] = true
  decide
theorem mr2 (a b c : Value) : inhF [mrA, mrB] mrB [mrH a b c] = false := by
  show inhF [mrA, mrB] mrB [mrH (.int .i64 0) (.int .i64 0) (.int .i64 0)] = false
  decide
theorem mr3 (a : Value) : silF mrB 5 [mrS a] = true := by
  show silF mrB 5 [mrS (.int .i64 0)] = true
  decide
theorem mr4 (a : Value) : silF mrB 9 [mrS a] = false := by
  show silF mrB 9 [mrS (.int .i64 0)] = false
  decide
theorem mr5 (a b c d : Value) : heardF [mrA, mrB] 5 [mrS d] [mrH a b c] = [] := by
  show heardF [mrA, mrB] 5 [mrS (.int .i64 0)] [mrH (.int .i64 0) (.int .i64 0) (.int .i64 0)] = []
  decide
theorem mr6 (a b c d : Value) : rightMute [mrS d] [mrH a b c] = true := by
  show rightMute [mrS (.int .i64 0)] [mrH (.int .i64 0) (.int .i64 0) (.int .i64 0)] = true
  decide
theorem calls_alloc {P : Program} {f : FuncId} {args : Array Value} {V : World} {o : Obj} {b : Value} (h : Calls P f args (V.alloc o) fun e w' => e = .returned b ∧ Below (V.alloc o).heap.size (V.alloc o) w') : Calls P f args (V.alloc o) fun e w' => e = .returned b ∧ Below V.heap.size V w' :=
  h.mono fun _ _ hh => ⟨hh.1, ((Below.refl V.heap.size V).alloc (Nat.le_refl _) o).trans (hh.2.mono (by simp))⟩
set_option maxHeartbeats 4000000 in
theorem mute_runs (w : World) : Calls Try.prog 3 #[] w fun e w' => e = .returned (.bool true) ∧ Below w.heap.size w w' := by
  have HT0 := Lib.hid (show Kept w [fun W => HasL W (.slice (some ⟨w.heap.size + 1, 0, none⟩) 2 2) mrB, fun W => HasL W (.slice (some ⟨w.heap.size, 0, none⟩) 1 1) mrA] ((w.alloc (.cells #[.string ⟨#[97]⟩, .string ⟨#[120]⟩] 23)).alloc (.cells #[.string ⟨#[97]⟩, .string ⟨#[120]⟩, .string ⟨#[98]⟩, .string ⟨#[49]⟩] 23)) by
    have k1 := ((Kept.start w).alloc (.cells #[.string ⟨#[97]⟩, .string ⟨#[120]⟩] 23)).add (P := fun W => HasL W (.slice (some ⟨w.heap.size, 0, none⟩) 1 1) mrA) (HasL.stay ⟨_, 1, rfl, (Blk.mk (heap_alloc_new w _) : Blk _ w.heap.size 23 [.string ⟨#[97]⟩, .string ⟨#[120]⟩]).sees rfl (List.prefix_refl _), Nat.le_refl _, by simp⟩)
    refine (k1.alloc _).add (HasL.stay ⟨_, 2, rfl, ?_, Nat.le_refl _, by simp⟩)
    have h := (Blk.mk (heap_alloc_new (w.alloc (.cells #[.string ⟨#[97]⟩, .string ⟨#[120]⟩] 23)) _) : Blk _ _ 23 [.string ⟨#[97]⟩, .string ⟨#[120]⟩, .string ⟨#[98]⟩, .string ⟨#[49]⟩]).sees (size := 2) (n := 2) (xs := lbls mrB) rfl (List.prefix_refl _)
    rw [show (w.alloc (.cells #[.string ⟨#[97]⟩, .string ⟨#[120]⟩] 23)).heap.size = w.heap.size + 1 by simp] at h
    exact h)
  go_enter Try.func3, Try.ntmps3
  go_wp2_with fail
  (with_reducible refine (eq18_any _ _ _).mono ?_); rintro e w1 ⟨g1, rfl, hm1, hbq⟩
  have HT0_n := Lib.hid ((HT0.out.below hbq).add hm1.stay); clear HT0; have HT0 := HT0_n; clear HT0_n
  clear hm1 hbq
  go_wp2_with fail
  (with_reducible refine (eq18_any _ _ _).mono ?_); rintro e w2 ⟨g2, rfl, hm1, hbq⟩
  have HT0_n := Lib.hid ((HT0.out.below hbq).add hm1.stay); clear HT0; have HT0 := HT0_n; clear HT0_n
  clear hm1 hbq
  have HT1 := Lib.hid (show Kept w [fun W => Blk W (w2.heap.size + 1) 29 [.slice (some ⟨g1, 0, none⟩) 1 1, .slice (some ⟨g2, 0, none⟩) 1 1, .slice (some ⟨w2.heap.size, 0, none⟩) 1 1], fun W => HasS W (.slice (some ⟨w2.heap.size, 0, none⟩) 1 1) [⟨#[97]⟩], fun W => HasM W (.slice (some ⟨g2, 0, none⟩) 1 1) mrMA, fun W => HasM W (.slice (some ⟨g1, 0, none⟩) 1 1) mrMB, fun W => HasL W (.slice (some ⟨w.heap.size + 1, 0, none⟩) 2 2) mrB, fun W => HasL W (.slice (some ⟨w.heap.size, 0, none⟩) 1 1) mrA] ((w2.alloc (.cells #[.string ⟨#[97]⟩] 9)).alloc (.cells #[.slice (some ⟨g1, 0, none⟩) 1 1, .slice (some ⟨g2, 0, none⟩) 1 1, .slice (some ⟨w2.heap.size, 0, none⟩) 1 1] 29)) by
    have k1 := (HT0.out.alloc (.cells #[.string ⟨#[97]⟩] 9)).add (P := fun W => HasS W (.slice (some ⟨w2.heap.size, 0, none⟩) 1 1) [⟨#[97]⟩]) (HasS.stay ⟨_, 1, rfl, (Blk.mk (heap_alloc_new w2 _) : Blk _ w2.heap.size 9 [.string ⟨#[97]⟩]).sees rfl (List.prefix_refl _), Nat.le_refl _, by simp⟩)
    refine (k1.alloc _).add (Blk.stays ?_)
    have h := (Blk.mk (heap_alloc_new (w2.alloc (.cells #[.string ⟨#[97]⟩] 9)) (.cells #[.slice (some ⟨g1, 0, none⟩) 1 1, .slice (some ⟨g2, 0, none⟩) 1 1, .slice (some ⟨w2.heap.size, 0, none⟩) 1 1] 29)) : Blk _ _ 29 [.slice (some ⟨g1, 0, none⟩) 1 1, .slice (some ⟨g2, 0, none⟩) 1 1, .slice (some ⟨w2.heap.size, 0, none⟩) 1 1])
    rw [show (w2.alloc (.cells #[.string ⟨#[97]⟩] 9)).heap.size = w2.heap.size + 1 by simp] at h
    exact h)
  clear HT0
  go_wp2_with fail
  (with_reducible refine (eq18_any _ _ _).mono ?_); rintro e w4 ⟨g4, rfl, hm1, hbq⟩
  have HT1_n := Lib.hid ((HT1.out.below hbq).add hm1.stay); clear HT1; have HT1 := HT1_n; clear HT1_n
  clear hm1 hbq
  obtain ⟨ga, hga⟩ : ∃ b, w.heap.size = b := ⟨_, rfl⟩
  obtain ⟨gb, hgb⟩ : ∃ b, w.heap.size + 1 = b := ⟨_, rfl⟩
  obtain ⟨ge, hge⟩ : ∃ b, w2.heap.size = b := ⟨_, rfl⟩
  obtain ⟨bh, hbh⟩ : ∃ b, w2.heap.size + 1 = b := ⟨_, rfl⟩
  have HQ := Lib.hid (show Kept w [fun W => SetsAt W (some ⟨w4.heap.size + 1, 0, none⟩) 2 [(.slice (some ⟨w.heap.size, 0, none⟩) 1 1, mrA), (.slice (some ⟨w.heap.size + 1, 0, none⟩) 2 2, mrB)], fun W => Blk W w4.heap.size 31 [.slice (some ⟨g4, 0, none⟩) 1 1, .int .i64 5, .int .i64 9], fun W => HasM W (.slice (some ⟨g4, 0, none⟩) 1 1) mrMB, fun W => Blk W (w2.heap.size + 1) 29 [.slice (some ⟨g1, 0, none⟩) 1 1, .slice (some ⟨g2, 0, none⟩) 1 1, .slice (some ⟨w2.heap.size, 0, none⟩) 1 1], fun W => HasS W (.slice (some ⟨w2.heap.size, 0, none⟩) 1 1) [⟨#[97]⟩], fun W => HasM W (.slice (some ⟨g2, 0, none⟩) 1 1) mrMA, fun W => HasM W (.slice (some ⟨g1, 0, none⟩) 1 1) mrMB, fun W => HasL W (.slice (some ⟨w.heap.size + 1, 0, none⟩) 2 2) mrB, fun W => HasL W (.slice (some ⟨w.heap.size, 0, none⟩) 1 1) mrA]
      ((w4.alloc (.cells #[.slice (some ⟨g4, 0, none⟩) 1 1, .int .i64 5, .int .i64 9] 31)).alloc (.cells #[.slice (some ⟨w.heap.size, 0, none⟩) 1 1, .slice (some ⟨w.heap.size + 1, 0, none⟩) 2 2] 24)) by
    have k0 := HT1.out.alloc (.cells #[.slice (some ⟨g4, 0, none⟩) 1 1, .int .i64 5, .int .i64 9] 31)
    have hs := (Blk.mk (heap_alloc_new w4 (.cells #[.slice (some ⟨g4, 0, none⟩) 1 1, .int .i64 5, .int .i64 9] 31)) : Blk _ w4.heap.size 31 [.slice (some ⟨g4, 0, none⟩) 1 1, .int .i64 5, .int .i64 9])
    have k1 := (Kept.start w).below k0.bel
    have k2 := (((((((k1.add k0.p6.stay).add k0.p5.stay).add k0.p4.stay).add k0.p3.stay).add k0.p2.stay).add k0.p1.stays).add k0.p0.stay).add hs.stays
    refine (k2.alloc _).add (SetsAt.stays ⟨?_, fun x hx => ?_⟩)
    · have h := (Blk.mk (heap_alloc_new (w4.alloc (.cells #[.slice (some ⟨g4, 0, none⟩) 1 1, .int .i64 5, .int .i64 9] 31)) (.cells #[.slice (some ⟨w.heap.size, 0, none⟩) 1 1, .slice (some ⟨w.heap.size + 1, 0, none⟩) 2 2] 24)) : Blk _ _ 24 [.slice (some ⟨w.heap.size, 0, none⟩) 1 1, .slice (some ⟨w.heap.size + 1, 0, none⟩) 2 2]).sees (size := 1) (n := 2) rfl (List.prefix_refl _)
      rw [show (w4.alloc (.cells #[.slice (some ⟨g4, 0, none⟩) 1 1, .int .i64 5, .int .i64 9] 31)).heap.size = w4.heap.size + 1 by simp] at h
      exact h
    · have k3 := k2.alloc (.cells #[.slice (some ⟨w.heap.size, 0, none⟩) 1 1, .slice (some ⟨w.heap.size + 1, 0, none⟩) 2 2] 24)
      rcases List.mem_cons.1 hx with rfl | hx
      · exact k3.p7
      · rw [List.mem_singleton] at hx; subst hx; exact k3.p6)
  clear HT1 hga hgb hge hbh ga gb ge bh
  obtain ⟨W5, hW5⟩ : ∃ W, ((w4.alloc (.cells #[.slice (some ⟨g4, 0, none⟩) 1 1, .int .i64 5, .int .i64 9] 31)).alloc (.cells #[.slice (some ⟨w.heap.size, 0, none⟩) 1 1, .slice (some ⟨w.heap.size + 1, 0, none⟩) 2 2] 24)) = W := ⟨_, rfl⟩
  rw [hW5] at HQ
  go_upto_region 6 with fail
  try rw [hW5]
  clear hW5
  obtain ⟨gl, hgl⟩ : ∃ b, w4.heap.size + 1 = b := ⟨_, rfl⟩
  obtain ⟨bs, hbs⟩ : ∃ b, w4.heap.size = b := ⟨_, rfl⟩
  obtain ⟨bh, hbh⟩ : ∃ b, w2.heap.size + 1 = b := ⟨_, rfl⟩
  obtain ⟨ge, hge⟩ : ∃ b, w2.heap.size = b := ⟨_, rfl⟩
  obtain ⟨gb, hgb⟩ : ∃ b, w.heap.size + 1 = b := ⟨_, rfl⟩
  obtain ⟨ga, hga⟩ : ∃ b, w.heap.size = b := ⟨_, rfl⟩
  rw [hgl, hbs, hbh, hge, hgb, hga] at HQ
  try rw [hgl]
  try rw [hbs]
  try rw [hbh]
  try rw [hge]
  try rw [hgb]
  try rw [hga]
  have HT : Hid (Kept w [fun W => SetsAt W (some ⟨gl, 0, none⟩) 2 [(.slice (some ⟨ga, 0, none⟩) 1 1, mrA), (.slice (some ⟨gb, 0, none⟩) 2 2, mrB)], fun W => Blk W bs 31 [.slice (some ⟨g4, 0, none⟩) 1 1, .int .i64 5, .int .i64 9], fun W => HasM W (.slice (some ⟨g4, 0, none⟩) 1 1) mrMB, fun W => Blk W bh 29 [.slice (some ⟨g1, 0, none⟩) 1 1, .slice (some ⟨g2, 0, none⟩) 1 1, .slice (some ⟨ge, 0, none⟩) 1 1], fun W => HasS W (.slice (some ⟨ge, 0, none⟩) 1 1) [⟨#[97]⟩], fun W => HasM W (.slice (some ⟨g2, 0, none⟩) 1 1) mrMA, fun W => HasM W (.slice (some ⟨g1, 0, none⟩) 1 1) mrMB, fun W => HasL W (.slice (some ⟨gb, 0, none⟩) 2 2) mrB, fun W => HasL W (.slice (some ⟨ga, 0, none⟩) 1 1) mrA] W5) := HQ
  clear HQ hgl hbs hbh hge hgb hga
  have HI0 : Hid (∀ V, Kept w [fun W => SetsAt W (some ⟨gl, 0, none⟩) 2 [(.slice (some ⟨ga, 0, none⟩) 1 1, mrA), (.slice (some ⟨gb, 0, none⟩) 2 2, mrB)], fun W => Blk W bs 31 [.slice (some ⟨g4, 0, none⟩) 1 1, .int .i64 5, .int .i64 9], fun W => HasM W (.slice (some ⟨g4, 0, none⟩) 1 1) mrMB, fun W => Blk W bh 29 [.slice (some ⟨g1, 0, none⟩) 1 1, .slice (some ⟨g2, 0, none⟩) 1 1, .slice (some ⟨ge, 0, none⟩) 1 1], fun W => HasS W (.slice (some ⟨ge, 0, none⟩) 1 1) [⟨#[97]⟩], fun W => HasM W (.slice (some ⟨g2, 0, none⟩) 1 1) mrMA, fun W => HasM W (.slice (some ⟨g1, 0, none⟩) 1 1) mrMB, fun W => HasL W (.slice (some ⟨gb, 0, none⟩) 2 2) mrB, fun W => HasL W (.slice (some ⟨ga, 0, none⟩) 1 1) mrA] V → Calls Try.prog 8 #[.slice (some ⟨gl, 0, none⟩) 2 2, .int .i64 0, .slice (some ⟨V.heap.size, 0, none⟩) 1 1] (V.alloc (.cells #[.slice (some ⟨g1, 0, none⟩) 1 1, .slice (some ⟨g2, 0, none⟩) 1 1, .slice (some ⟨ge, 0, none⟩) 1 1] 29)) fun e w' => e = .returned (.bool true) ∧ Below V.heap.size V w') := Lib.hid (fun V h =>
    calls_alloc ((inhibited_any (some ⟨gl, 0, none⟩) 2 2 [(.slice (some ⟨ga, 0, none⟩) 1 1, mrA), (.slice (some ⟨gb, 0, none⟩) 2 2, mrB)] 0 _ 1 1 [mrH (.slice (some ⟨g1, 0, none⟩) 1 1) (.slice (some ⟨g2, 0, none⟩) 1 1) (.slice (some ⟨ge, 0, none⟩) 1 1)] _ (h.alloc _).p0 (inhs_one (mrH (.slice (some ⟨g1, 0, none⟩) 1 1) (.slice (some ⟨g2, 0, none⟩) 1 1) (.slice (some ⟨ge, 0, none⟩) 1 1)) h.p6 h.p5 h.p4) (by omega) (by omega) (by simp)).mono fun e w' hh => ⟨hh.1.trans (congrArg (fun b => Ending.returned (.bool b)) (mr1 _ _ _)), hh.2⟩))
  have HI1 : Hid (∀ V, Kept w [fun W => SetsAt W (some ⟨gl, 0, none⟩) 2 [(.slice (some ⟨ga, 0, none⟩) 1 1, mrA), (.slice (some ⟨gb, 0, none⟩) 2 2, mrB)], fun W => Blk W bs 31 [.slice (some ⟨g4, 0, none⟩) 1 1, .int .i64 5, .int .i64 9], fun W => HasM W (.slice (some ⟨g4, 0, none⟩) 1 1) mrMB, fun W => Blk W bh 29 [.slice (some ⟨g1, 0, none⟩) 1 1, .slice (some ⟨g2, 0, none⟩) 1 1, .slice (some ⟨ge, 0, none⟩) 1 1], fun W => HasS W (.slice (some ⟨ge, 0, none⟩) 1 1) [⟨#[97]⟩], fun W => HasM W (.slice (some ⟨g2, 0, none⟩) 1 1) mrMA, fun W => HasM W (.slice (some ⟨g1, 0, none⟩) 1 1) mrMB, fun W => HasL W (.slice (some ⟨gb, 0, none⟩) 2 2) mrB, fun W => HasL W (.slice (some ⟨ga, 0, none⟩) 1 1) mrA] V → Calls Try.prog 8 #[.slice (some ⟨gl, 0, none⟩) 2 2, .int .i64 1, .slice (some ⟨V.heap.size, 0, none⟩) 1 1] (V.alloc (.cells #[.slice (some ⟨g1, 0, none⟩) 1 1, .slice (some ⟨g2, 0, none⟩) 1 1, .slice (some ⟨ge, 0, none⟩) 1 1] 29)) fun e w' => e = .returned (.bool false) ∧ Below V.heap.size V w') := Lib.hid (fun V h =>
    calls_alloc ((inhibited_any (some ⟨gl, 0, none⟩) 2 2 [(.slice (some ⟨ga, 0, none⟩) 1 1, mrA), (.slice (some ⟨gb, 0, none⟩) 2 2, mrB)] 1 _ 1 1 [mrH (.slice (some ⟨g1, 0, none⟩) 1 1) (.slice (some ⟨g2, 0, none⟩) 1 1) (.slice (some ⟨ge, 0, none⟩) 1 1)] _ (h.alloc _).p0 (inhs_one (mrH (.slice (some ⟨g1, 0, none⟩) 1 1) (.slice (some ⟨g2, 0, none⟩) 1 1) (.slice (some ⟨ge, 0, none⟩) 1 1)) h.p6 h.p5 h.p4) (by omega) (by omega) (by simp)).mono fun e w' hh => ⟨hh.1.trans (congrArg (fun b => Ending.returned (.bool b)) (mr2 _ _ _)), hh.2⟩))
  have HS0 : Hid (∀ V, Kept w [fun W => SetsAt W (some ⟨gl, 0, none⟩) 2 [(.slice (some ⟨ga, 0, none⟩) 1 1, mrA), (.slice (some ⟨gb, 0, none⟩) 2 2, mrB)], fun W => Blk W bs 31 [.slice (some ⟨g4, 0, none⟩) 1 1, .int .i64 5, .int .i64 9], fun W => HasM W (.slice (some ⟨g4, 0, none⟩) 1 1) mrMB, fun W => Blk W bh 29 [.slice (some ⟨g1, 0, none⟩) 1 1, .slice (some ⟨g2, 0, none⟩) 1 1, .slice (some ⟨ge, 0, none⟩) 1 1], fun W => HasS W (.slice (some ⟨ge, 0, none⟩) 1 1) [⟨#[97]⟩], fun W => HasM W (.slice (some ⟨g2, 0, none⟩) 1 1) mrMA, fun W => HasM W (.slice (some ⟨g1, 0, none⟩) 1 1) mrMB, fun W => HasL W (.slice (some ⟨gb, 0, none⟩) 2 2) mrB, fun W => HasL W (.slice (some ⟨ga, 0, none⟩) 1 1) mrA] V → Calls Try.prog 9 #[.slice (some ⟨gb, 0, none⟩) 2 2, .int .i64 5, .slice (some ⟨V.heap.size, 0, none⟩) 1 1] (V.alloc (.cells #[.slice (some ⟨g4, 0, none⟩) 1 1, .int .i64 5, .int .i64 9] 31)) fun e w' => e = .returned (.bool true) ∧ Below V.heap.size V w') := Lib.hid (fun V h =>
    calls_alloc ((silenced_any (.slice (some ⟨gb, 0, none⟩) 2 2) mrB 5 _ 1 1 [mrS (.slice (some ⟨g4, 0, none⟩) 1 1)] _ (h.alloc _).p7 (sils_one (mrS (.slice (some ⟨g4, 0, none⟩) 1 1)) h.p2) (by omega)).mono fun e w' hh => ⟨hh.1.trans (congrArg (fun b => Ending.returned (.bool b)) (mr3 _)), hh.2⟩))
  have HS1 : Hid (∀ V, Kept w [fun W => SetsAt W (some ⟨gl, 0, none⟩) 2 [(.slice (some ⟨ga, 0, none⟩) 1 1, mrA), (.slice (some ⟨gb, 0, none⟩) 2 2, mrB)], fun W => Blk W bs 31 [.slice (some ⟨g4, 0, none⟩) 1 1, .int .i64 5, .int .i64 9], fun W => HasM W (.slice (some ⟨g4, 0, none⟩) 1 1) mrMB, fun W => Blk W bh 29 [.slice (some ⟨g1, 0, none⟩) 1 1, .slice (some ⟨g2, 0, none⟩) 1 1, .slice (some ⟨ge, 0, none⟩) 1 1], fun W => HasS W (.slice (some ⟨ge, 0, none⟩) 1 1) [⟨#[97]⟩], fun W => HasM W (.slice (some ⟨g2, 0, none⟩) 1 1) mrMA, fun W => HasM W (.slice (some ⟨g1, 0, none⟩) 1 1) mrMB, fun W => HasL W (.slice (some ⟨gb, 0, none⟩) 2 2) mrB, fun W => HasL W (.slice (some ⟨ga, 0, none⟩) 1 1) mrA] V → Calls Try.prog 9 #[.slice (some ⟨gb, 0, none⟩) 2 2, .int .i64 9, .slice (some ⟨V.heap.size, 0, none⟩) 1 1] (V.alloc (.cells #[.slice (some ⟨g4, 0, none⟩) 1 1, .int .i64 5, .int .i64 9] 31)) fun e w' => e = .returned (.bool false) ∧ Below V.heap.size V w') := Lib.hid (fun V h =>
    calls_alloc ((silenced_any (.slice (some ⟨gb, 0, none⟩) 2 2) mrB 9 _ 1 1 [mrS (.slice (some ⟨g4, 0, none⟩) 1 1)] _ (h.alloc _).p7 (sils_one (mrS (.slice (some ⟨g4, 0, none⟩) 1 1)) h.p2) (by omega)).mono fun e w' hh => ⟨hh.1.trans (congrArg (fun b => Ending.returned (.bool b)) (mr4 _)), hh.2⟩))
  have HH0 : Hid (∀ V, Kept w [fun W => SetsAt W (some ⟨gl, 0, none⟩) 2 [(.slice (some ⟨ga, 0, none⟩) 1 1, mrA), (.slice (some ⟨gb, 0, none⟩) 2 2, mrB)], fun W => Blk W bs 31 [.slice (some ⟨g4, 0, none⟩) 1 1, .int .i64 5, .int .i64 9], fun W => HasM W (.slice (some ⟨g4, 0, none⟩) 1 1) mrMB, fun W => Blk W bh 29 [.slice (some ⟨g1, 0, none⟩) 1 1, .slice (some ⟨g2, 0, none⟩) 1 1, .slice (some ⟨ge, 0, none⟩) 1 1], fun W => HasS W (.slice (some ⟨ge, 0, none⟩) 1 1) [⟨#[97]⟩], fun W => HasM W (.slice (some ⟨g2, 0, none⟩) 1 1) mrMA, fun W => HasM W (.slice (some ⟨g1, 0, none⟩) 1 1) mrMB, fun W => HasL W (.slice (some ⟨gb, 0, none⟩) 2 2) mrB, fun W => HasL W (.slice (some ⟨ga, 0, none⟩) 1 1) mrA] V → Calls Try.prog 10 #[.slice (some ⟨gl, 0, none⟩) 2 2, .int .i64 5, .slice (some ⟨V.heap.size, 0, none⟩) 1 1, .slice (some ⟨V.heap.size + 1, 0, none⟩) 1 1] ((V.alloc (.cells #[.slice (some ⟨g4, 0, none⟩) 1 1, .int .i64 5, .int .i64 9] 31)).alloc (.cells #[.slice (some ⟨g1, 0, none⟩) 1 1, .slice (some ⟨g2, 0, none⟩) 1 1, .slice (some ⟨ge, 0, none⟩) 1 1] 29)) fun e w' => (∃ A c, e = .returned (.slice A 0 c)) ∧ Below V.heap.size V w') := Lib.hid (fun V h => by
    have k1 := h.alloc (.cells #[.slice (some ⟨g4, 0, none⟩) 1 1, .int .i64 5, .int .i64 9] 31)
    have hi := inhs_one (W := V.alloc (.cells #[.slice (some ⟨g4, 0, none⟩) 1 1, .int .i64 5, .int .i64 9] 31)) (mrH (.slice (some ⟨g1, 0, none⟩) 1 1) (.slice (some ⟨g2, 0, none⟩) 1 1) (.slice (some ⟨ge, 0, none⟩) 1 1)) k1.p6 k1.p5 k1.p4
    rw [show (V.alloc (.cells #[.slice (some ⟨g4, 0, none⟩) 1 1, .int .i64 5, .int .i64 9] 31)).heap.size = V.heap.size + 1 by simp] at hi
    refine (heard_any (some ⟨gl, 0, none⟩) 2 2 [(.slice (some ⟨ga, 0, none⟩) 1 1, mrA), (.slice (some ⟨gb, 0, none⟩) 2 2, mrB)] 5 _ 1 1 [mrS (.slice (some ⟨g4, 0, none⟩) 1 1)] _ 1 1 [mrH (.slice (some ⟨g1, 0, none⟩) 1 1) (.slice (some ⟨g2, 0, none⟩) 1 1) (.slice (some ⟨ge, 0, none⟩) 1 1)] _ (k1.alloc _).p0 ((sils_one (mrS (.slice (some ⟨g4, 0, none⟩) 1 1)) h.p2).below ((Below.refl _ _).alloc (Nat.le_refl _) _)) hi (by omega) (by omega) (by omega) (fun x hx => ?_)).mono fun e w' hh => ?_
    · rcases List.mem_cons.1 hx with rfl | hx
      · exact (by decide : mrA.length ≤ 1000)
      · rw [List.mem_singleton] at hx; subst hx; exact (by decide : mrB.length ≤ 1000)
    · obtain ⟨A, c, rows, h1, h2, h3, h4, _⟩ := hh
      have h5 : setsOf rows = [] := h1.trans (mr5 _ _ _ _)
      have h6 : rows = [] := by cases rows with | nil => rfl | cons x y => simp [setsOf] at h5
      subst h6
      exact ⟨⟨A, c, h2⟩, (((Below.refl V.heap.size V).alloc (Nat.le_refl _) (.cells #[.slice (some ⟨g4, 0, none⟩) 1 1, .int .i64 5, .int .i64 9] 31)).alloc (by simp) (.cells #[.slice (some ⟨g1, 0, none⟩) 1 1, .slice (some ⟨g2, 0, none⟩) 1 1, .slice (some ⟨ge, 0, none⟩) 1 1] 29)).trans (h4.mono (by simp; omega))⟩)
  have HR0 : Hid (∀ V, Kept w [fun W => SetsAt W (some ⟨gl, 0, none⟩) 2 [(.slice (some ⟨ga, 0, none⟩) 1 1, mrA), (.slice (some ⟨gb, 0, none⟩) 2 2, mrB)], fun W => Blk W bs 31 [.slice (some ⟨g4, 0, none⟩) 1 1, .int .i64 5, .int .i64 9], fun W => HasM W (.slice (some ⟨g4, 0, none⟩) 1 1) mrMB, fun W => Blk W bh 29 [.slice (some ⟨g1, 0, none⟩) 1 1, .slice (some ⟨g2, 0, none⟩) 1 1, .slice (some ⟨ge, 0, none⟩) 1 1], fun W => HasS W (.slice (some ⟨ge, 0, none⟩) 1 1) [⟨#[97]⟩], fun W => HasM W (.slice (some ⟨g2, 0, none⟩) 1 1) mrMA, fun W => HasM W (.slice (some ⟨g1, 0, none⟩) 1 1) mrMB, fun W => HasL W (.slice (some ⟨gb, 0, none⟩) 2 2) mrB, fun W => HasL W (.slice (some ⟨ga, 0, none⟩) 1 1) mrA] V → Calls Try.prog 11 #[.slice (some ⟨V.heap.size, 0, none⟩) 1 1, .slice (some ⟨V.heap.size + 1, 0, none⟩) 1 1] ((V.alloc (.cells #[.slice (some ⟨g4, 0, none⟩) 1 1, .int .i64 5, .int .i64 9] 31)).alloc (.cells #[.slice (some ⟨g1, 0, none⟩) 1 1, .slice (some ⟨g2, 0, none⟩) 1 1, .slice (some ⟨ge, 0, none⟩) 1 1] 29)) fun e w' => e = .returned (.bool true) ∧ Below V.heap.size V w') := Lib.hid (fun V h => by
    have k1 := h.alloc (.cells #[.slice (some ⟨g4, 0, none⟩) 1 1, .int .i64 5, .int .i64 9] 31)
    have hi := inhs_one (W := V.alloc (.cells #[.slice (some ⟨g4, 0, none⟩) 1 1, .int .i64 5, .int .i64 9] 31)) (mrH (.slice (some ⟨g1, 0, none⟩) 1 1) (.slice (some ⟨g2, 0, none⟩) 1 1) (.slice (some ⟨ge, 0, none⟩) 1 1)) k1.p6 k1.p5 k1.p4
    rw [show (V.alloc (.cells #[.slice (some ⟨g4, 0, none⟩) 1 1, .int .i64 5, .int .i64 9] 31)).heap.size = V.heap.size + 1 by simp] at hi
    refine (rightMute_any _ 1 1 [mrS (.slice (some ⟨g4, 0, none⟩) 1 1)] _ 1 1 [mrH (.slice (some ⟨g1, 0, none⟩) 1 1) (.slice (some ⟨g2, 0, none⟩) 1 1) (.slice (some ⟨ge, 0, none⟩) 1 1)] _ ((sils_one (mrS (.slice (some ⟨g4, 0, none⟩) 1 1)) h.p2).below ((Below.refl _ _).alloc (Nat.le_refl _) _)) hi (by omega) (by omega)).mono fun e w' hh => ?_
    exact ⟨hh.1.trans (congrArg (fun b => Ending.returned (.bool b)) (mr6 _ _ _ _)), (((Below.refl V.heap.size V).alloc (Nat.le_refl _) (.cells #[.slice (some ⟨g4, 0, none⟩) 1 1, .int .i64 5, .int .i64 9] 31)).alloc (by simp) (.cells #[.slice (some ⟨g1, 0, none⟩) 1 1, .slice (some ⟨g2, 0, none⟩) 1 1, .slice (some ⟨ge, 0, none⟩) 1 1] 29)).trans (hh.2.mono (by simp; omega))⟩)
  have b0 := HT.out.p3.cell 0; have b1 := HT.out.p3.cell 1; have b2 := HT.out.p3.cell 2; have b3 := HT.out.p3.lt
  have d0 := HT.out.p1.cell 0; have d1 := HT.out.p1.cell 1; have d2 := HT.out.p1.cell 2; have d3 := HT.out.p1.lt
  simp only [List.getElem?_cons_zero, List.getElem?_cons_succ] at b0 b1 b2 d0 d1 d2
  go_wp2_with fail
  (with_reducible refine (HI0.out _ HT.out).mono ?_); rintro e wq ⟨rfl, hbq⟩
  have HT_n := Lib.hid (HT.out.below hbq); clear HT; have HT := HT_n; clear HT_n
  clear hbq b0 b1 b2 b3 d0 d1 d2 d3
  have b0 := HT.out.p3.cell 0; have b1 := HT.out.p3.cell 1; have b2 := HT.out.p3.cell 2; have b3 := HT.out.p3.lt
  have d0 := HT.out.p1.cell 0; have d1 := HT.out.p1.cell 1; have d2 := HT.out.p1.cell 2; have d3 := HT.out.p1.lt
  simp only [List.getElem?_cons_zero, List.getElem?_cons_succ] at b0 b1 b2 d0 d1 d2
  go_wp2_with fail
  (with_reducible refine (HI1.out _ HT.out).mono ?_); rintro e wq ⟨rfl, hbq⟩
  have HT_n := Lib.hid (HT.out.below hbq); clear HT; have HT := HT_n; clear HT_n
  clear hbq b0 b1 b2 b3 d0 d1 d2 d3
  have b0 := HT.out.p3.cell 0; have b1 := HT.out.p3.cell 1; have b2 := HT.out.p3.cell 2; have b3 := HT.out.p3.lt
  have d0 := HT.out.p1.cell 0; have d1 := HT.out.p1.cell 1; have d2 := HT.out.p1.cell 2; have d3 := HT.out.p1.lt
  simp only [List.getElem?_cons_zero, List.getElem?_cons_succ] at b0 b1 b2 d0 d1 d2
  go_wp2_with fail
  (with_reducible refine (HS0.out _ HT.out).mono ?_); rintro e wq ⟨rfl, hbq⟩
  have HT_n := Lib.hid (HT.out.below hbq); clear HT; have HT := HT_n; clear HT_n
  clear hbq b0 b1 b2 b3 d0 d1 d2 d3
  have b0 := HT.out.p3.cell 0; have b1 := HT.out.p3.cell 1; have b2 := HT.out.p3.cell 2; have b3 := HT.out.p3.lt
  have d0 := HT.out.p1.cell 0; have d1 := HT.out.p1.cell 1; have d2 := HT.out.p1.cell 2; have d3 := HT.out.p1.lt
  simp only [List.getElem?_cons_zero, List.getElem?_cons_succ] at b0 b1 b2 d0 d1 d2
  go_wp2_with fail
  (with_reducible refine (HS1.out _ HT.out).mono ?_); rintro e wq ⟨rfl, hbq⟩
  have HT_n := Lib.hid (HT.out.below hbq); clear HT; have HT := HT_n; clear HT_n
  clear hbq b0 b1 b2 b3 d0 d1 d2 d3
  have b0 := HT.out.p3.cell 0; have b1 := HT.out.p3.cell 1; have b2 := HT.out.p3.cell 2; have b3 := HT.out.p3.lt
  have d0 := HT.out.p1.cell 0; have d1 := HT.out.p1.cell 1; have d2 := HT.out.p1.cell 2; have d3 := HT.out.p1.lt
  simp only [List.getElem?_cons_zero, List.getElem?_cons_succ] at b0 b1 b2 d0 d1 d2
  go_wp2_with fail
  (with_reducible refine (HH0.out _ HT.out).mono ?_); rintro e wq ⟨⟨A9, c9, rfl⟩, hbq⟩
  have HT_n := Lib.hid (HT.out.below hbq); clear HT; have HT := HT_n; clear HT_n
  clear hbq b0 b1 b2 b3 d0 d1 d2 d3
  have b0 := HT.out.p3.cell 0; have b1 := HT.out.p3.cell 1; have b2 := HT.out.p3.cell 2; have b3 := HT.out.p3.lt
  have d0 := HT.out.p1.cell 0; have d1 := HT.out.p1.cell 1; have d2 := HT.out.p1.cell 2; have d3 := HT.out.p1.lt
  simp only [List.getElem?_cons_zero, List.getElem?_cons_succ] at b0 b1 b2 d0 d1 d2
  go_wp2_with fail
  (with_reducible refine (HR0.out _ HT.out).mono ?_); rintro e wq ⟨rfl, hbq⟩
  have HT_n := Lib.hid (HT.out.below hbq); clear HT; have HT := HT_n; clear HT_n
  clear hbq b0 b1 b2 b3 d0 d1 d2 d3
  go_wp2_with fail
  go_ret
  exact ⟨rfl, HT.out.bel⟩
end Go.Proofs.Ytfcjalojgmpnoaa
