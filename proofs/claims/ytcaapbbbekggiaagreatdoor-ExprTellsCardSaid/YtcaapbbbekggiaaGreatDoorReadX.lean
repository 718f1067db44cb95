/- expr.read. -/
import Derived.Test.YtcaapbbbekggiaaGreatDoorBase4
import Derived.Deep.QuietTactic
import Derived.BigQuiet
namespace Go.Proofs.YtcaapbbbekggiaaGreatDoor
open Go.ChangeShapes Go.WideShapes Go.ChangeAt Go.RowKit
set_option linter.unusedVariables false
set_option linter.unusedSimpArgs false
set_option maxRecDepth 100000
theorem pickR_small {ts : List Tok} {en : Int} {n : Nat} {s : PS} (hn : n ≤ 1000000) : (pickR ts en n s).1.small := by
  have key : ∀ (f : Nat) (ms : List Mtc) (s : PS), (msF ts en f ms s).1.length ≤ ms.length + f := by
    intro f
    induction f with
    | zero => intro ms s; simp [msF]
    | succ f ih =>
      intro ms s
      unfold msF
      split
      · split
        · simp
        · refine Nat.le_trans (ih _ _) ?_
          rw [List.length_append, List.length_singleton]; omega
      · simp
  have h := key (n + 2) [] (mustF ts en s 4 ⟨#[123]⟩)
  simp only [List.length_nil] at h
  show PE.small (.mk 2 _ _ [] [])
  unfold PE.small
  refine ⟨?_, by simp, by simp, trivial⟩
  show (msF ts en (n + 2) [] (mustF ts en s 4 ⟨#[123]⟩)).1.length ≤ 1000002
  omega
theorem nsF_len {ts : List Tok} {en : Int} : ∀ (f : Nat) (ns : List ByteArray) (s : PS), (nsF ts en f ns s).1.length ≤ ns.length + f := by
  intro f
  induction f with
  | zero => intro ms s; simp [nsF]
  | succ f ih =>
    intro ms s
    unfold nsF
    split
    · split
      · simp
      · refine Nat.le_trans (ih _ _) ?_
        rw [List.length_append, List.length_singleton]; omega
    · simp
theorem zeroPE_small : zeroPE.small := by unfold zeroPE PE.small; exact ⟨by simp, by simp, by simp, trivial⟩
/-- What is read is small. -/
theorem exprF_small {ts : List Tok} {en : Int} {n : Nat} (hn : n ≤ 1000000) : ∀ (f : Nat) (s : PS), (exprF ts en n f s).1.small
  | 0, s => by
    unfold exprF
    split <;> exact zeroPE_small
  | f + 1, s => by
    unfold exprF
    split
    · exact zeroPE_small
    · split
      · show PE.small (.mk 1 _ [] [] [])
        unfold PE.small; exact ⟨by simp, by simp, by simp, trivial⟩
      · split
        · unfold ofOneF
          simp only
          show PE.small (.mk _ _ [] _ [_])
          unfold PE.small smallP
          refine ⟨by simp, ?_, by simp, exprF_small hn f _, trivial⟩
          have h := nsF_len (ts := ts) (en := en) (n + 2) [] (mustF ts en (mustF ts en (takeF ts en s 2).2 2 ⟨#[98, 121]⟩) 4 ⟨#[40]⟩)
          simp only [List.length_nil] at h
          omega
        · split
          · exact pickR_small hn
          · unfold ofTwoF
            simp only
            show PE.small (.mk _ _ [] [] [_, _])
            unfold PE.small smallP smallP
            exact ⟨by simp, by simp, by simp, exprF_small hn f _, exprF_small hn f _, trivial⟩
/-- An expression read, a byte, an error. -/
def readF (ts : List Tok) (en : Int) (n : Nat) : PE × Int × Int :=
  let r := exprF ts en n 8 ⟨0, 0, 0⟩
  let s := if r.2.p < n then failF ts en r.2 1 else r.2
  if s.fe ≠ 0 then (zeroPE, s.fa, s.fe) else if r.1.ty = 0 then (zeroPE, 0, 1) else (r.1, 0, 0)
/-- An answer that is an expression, a byte, an error. -/
def ReadAns (r : PE × Int × Int) (w : World) (e : Ending) (w' : World) : Prop :=
  ∃ x : XE, x.pe = r.1 ∧ e = .returned (.tuple #[x.val, .int .i64 r.2.1, .int .i64 r.2.2]) ∧ FarS (fun q => q < w.heap.size) (okX 9 x) w' ∧ Below w.heap.size w w'
theorem FarS.sees {S : Nat → Prop} {w : World} {size n : Nat} {A : Option Addr} {xs : List Value} (h : Sees w w.heap.size size A n xs) (hA : ∀ ad, A = some ad → ¬ S ad.block) : FarS S (fun W => Sees W W.heap.size size A n xs) w := fun V hs hk =>
  ⟨h.len, fun hp => by
    obtain ⟨ad, e, hb, hc⟩ := h.at_ hp
    refine ⟨ad, e, by omega, fun j u hj => ?_⟩
    have hcc := hc j u hj
    have hh := hk ad.block hb (hA ad e)
    unfold World.cell? at hcc ⊢
    rw [add_block] at hcc ⊢
    rw [hh]; exact hcc⟩
theorem sees_far_new {w : World} {size n g : Nat} {A : Option Addr} {xs : List Value} (h : Sees w w.heap.size size A n xs) (hg : w.heap.size ≤ g) : FarS (fun q => q = g) (fun W => Sees W W.heap.size size A n xs) w := by
  cases n with
  | zero =>
    have : xs = [] := List.eq_nil_of_length_eq_zero (by have := h.len; omega)
    subst this
    exact fun V _ _ => ⟨by simp, fun hp => absurd hp (by omega)⟩
  | succ n =>
    refine FarS.sees h (fun ad e hq => ?_)
    obtain ⟨ad', e', hb, _⟩ := h.at_ (by omega)
    rw [e] at e'; injection e' with e'; subst e'
    omega
theorem below_only {b B : Nat} {w0 w w' : World} (h0 : Below B w0 w) (ho : Only b w w') (hB : B ≤ b) (hs : B ≤ w.heap.size) : Below B w0 w' := by
  exact h0.trans { size := ho.size, os := ho.os, tape := ho.tape, output := ho.output, block := fun q hq => ho.block q (by omega) (by omega) }
theorem below_dn (w : World) (k : Nat) : Below w.heap.size w (w.drewN k) := { size := Nat.le_refl _, os := rfl, tape := rfl, output := rfl, block := fun _ _ => rfl }
theorem blk_fr {w : World} {b : Nat} {t : TypeId} {cs : List Value} (h : Blk w b t cs) : w.frozen? ⟨b, 0, none⟩ = false ∧ w.frozen? ⟨b, 1, none⟩ = false ∧ w.frozen? ⟨b, 2, none⟩ = false ∧ w.frozen? ⟨b, 3, none⟩ = false ∧ w.frozen? ⟨b, 4, none⟩ = false := ⟨h.frozen 0, h.frozen 1, h.frozen 2, h.frozen 3, h.frozen 4⟩
/-- Within read: the answer's box, the reader, the box of what was read. -/
structure RxAt (A : Option Addr) (n c : Nat) (ts : List Tok) (en : Int) (s : PS) (w0 : World) (g4 bx g8 : Nat) (x : XE) (w : World) : Prop where
  rd : RdAt bx A n c ts en s w
  z : Blk w g4 26 [.int .i64 0, .int .i64 0, .slice none 0 0, .slice none 0 0, .slice none 0 0]
  xb : Blk w g8 26 [.int .i64 x.kd, .int .i64 x.n, x.mv, x.nv, x.kv]
  far : FarS (fun q => q < w0.heap.size ∨ q = g4 ∨ q = bx ∨ q = g8) (okX 9 x) w
  bel : Below w0.heap.size w0 w
  l4 : w0.heap.size ≤ g4
  lb : g4 < bx
  l8 : bx < g8
section
variable {A : Option Addr} {n c : Nat} {ts : List Tok} {en : Int} {s s' : PS} {w0 w w' : World} {g4 bx g8 : Nat} {x : XE}
theorem RxAt.moved (h : RxAt A n c ts en s w0 g4 bx g8 x w) (hm : Moved bx A n c ts en s' w w') : RxAt A n c ts en s' w0 g4 bx g8 x w' := by
  have h2 := h.l4; have h3 := h.lb; have h4 := h.l8
  exact ⟨hm.rd, h.z.only hm.only (by omega), h.xb.only hm.only (by omega), h.far.only (.inr (.inr (.inl rfl))) hm.only, below_only h.bel hm.only (by omega) h.bel.size, h2, h3, h4⟩
theorem RxAt.below (h : RxAt A n c ts en s w0 g4 bx g8 x w) (hb : Below w.heap.size w w') : RxAt A n c ts en s w0 g4 bx g8 x w' := h.moved ⟨h.rd.below hb, Only.of_below hb⟩
/-- The answer written. -/
theorem RxAt.ans (h : RxAt A n c ts en s w0 g4 bx g8 x w) {y : XE} {r : PE × Int × Int} (hy : y.pe = r.1) (hf : FarS (fun q => q < w0.heap.size ∨ q = g4) (okX 9 y) w) :
    ReadAns r w0 (.returned (.tuple #[y.val, .int .i64 r.2.1, .int .i64 r.2.2])) (set5W w g4 (.int .i64 y.kd) (.int .i64 y.n) y.mv y.nv y.kv) := by
  have h2 := h.l4
  have hl := h.z.lt
  have hg := set5W_grown w g4 (.int .i64 y.kd) (.int .i64 y.n) y.mv y.nv y.kv
  refine ⟨y, hy, rfl, (hf.grown hg (fun g e => by injection e with e; exact .inr e.symm)).mono (fun q _ hq => .inl hq), ?_⟩
  have ho : Only g4 w (set5W w g4 (.int .i64 y.kd) (.int .i64 y.n) y.mv y.nv y.kv) := ⟨hg.size, hg.os, hg.tape, hg.output, fun q hq hn => hg.block q hq (fun e => hn (by injection e))⟩
  exact below_only h.bel ho h2 h.bel.size
end
def zeroXE : XE := .mk 0 0 (.slice none 0 0) [] (.slice none 0 0) [] (.slice none 0 0) []
theorem zeroXE_far (S : Nat → Prop) (w : World) (d : Nat) : FarS S (okX (d + 1) zeroXE) w := okX_far (FarS.nil 3) (FarS.nil 1) (FarS.nil 5) (fun x hx => absurd hx List.not_mem_nil)
set_option maxHeartbeats 4000000 in
theorem read_x (A : Option Addr) (n c : Nat) (ts : List Tok) (en : Int) (w : World) (h : Sees w w.heap.size 4 A n (tcells ts)) (hn : n ≤ 1000000) :
    Calls Tryz.prog 52 #[.slice A n c, .int .i64 en] w (ReadAns (readF ts en n) w) := by
  have hb1 : Below w.heap.size w (w.alloc (.cells #[.int .i64 0, .int .i64 0, .slice none 0 0, .slice none 0 0, .slice none 0 0] 26)) := (Below.refl _ _).alloc (Nat.le_refl _) _
  have hb2 : Below w.heap.size w ((w.alloc (.cells #[.int .i64 0, .int .i64 0, .slice none 0 0, .slice none 0 0, .slice none 0 0] 26)).alloc (.cells #[.slice A n c, .int .i64 0, .int .i64 en, .int .i64 0, .int .i64 0] 103)) := hb1.alloc (by simp) _
  have hsz : (w.alloc (.cells #[.int .i64 0, .int .i64 0, .slice none 0 0, .slice none 0 0, .slice none 0 0] 26)).heap.size = w.heap.size + 1 := by simp
  have HRD : Hid (RdAt (w.heap.size + 1) A n c ts en ⟨0, 0, 0⟩ ((w.alloc (.cells #[.int .i64 0, .int .i64 0, .slice none 0 0, .slice none 0 0, .slice none 0 0] 26)).alloc (.cells #[.slice A n c, .int .i64 0, .int .i64 en, .int .i64 0, .int .i64 0] 103))) := Lib.hid ⟨by have hh := (Blk.mk (heap_alloc_new (w.alloc (.cells #[.int .i64 0, .int .i64 0, .slice none 0 0, .slice none 0 0, .slice none 0 0] 26)) (.cells #[.slice A n c, .int .i64 0, .int .i64 en, .int .i64 0, .int .i64 0] 103)) : Blk _ (w.alloc (.cells #[.int .i64 0, .int .i64 0, .slice none 0 0, .slice none 0 0, .slice none 0 0] 26)).heap.size 103 [.slice A n c, .int .i64 0, .int .i64 en, .int .i64 0, .int .i64 0]); rw [hsz] at hh; exact hh, (sees_far_new h (by omega)).below hb2, Nat.zero_le _⟩
  have HZ : Hid (Blk ((w.alloc (.cells #[.int .i64 0, .int .i64 0, .slice none 0 0, .slice none 0 0, .slice none 0 0] 26)).alloc (.cells #[.slice A n c, .int .i64 0, .int .i64 en, .int .i64 0, .int .i64 0] 103)) w.heap.size 26 [.int .i64 0, .int .i64 0, .slice none 0 0, .slice none 0 0, .slice none 0 0]) := Lib.hid ((Blk.mk (heap_alloc_new w (.cells #[.int .i64 0, .int .i64 0, .slice none 0 0, .slice none 0 0, .slice none 0 0] 26))).alloc _)
  have HB := Lib.hid hb2
  have HX := Lib.hid (show Calls Tryz.prog 66 #[.pointer (some ⟨w.heap.size + 1, 0, none⟩), .int .i64 1] ((w.alloc (.cells #[.int .i64 0, .int .i64 0, .slice none 0 0, .slice none 0 0, .slice none 0 0] 26)).alloc (.cells #[.slice A n c, .int .i64 0, .int .i64 en, .int .i64 0, .int .i64 0] 103)) fun e w' => XAns (w.heap.size + 1) A n c ts en 9 (exprF ts en n 8 ⟨0, 0, 0⟩) ((w.alloc (.cells #[.int .i64 0, .int .i64 0, .slice none 0 0, .slice none 0 0, .slice none 0 0] 26)).alloc (.cells #[.slice A n c, .int .i64 0, .int .i64 en, .int .i64 0, .int .i64 0] 103)) e w' from expr_x (w.heap.size + 1) A n c ts en hn 8 1 ⟨0, 0, 0⟩ _ rfl HRD.out)
  have HSM := Lib.hid (exprF_small (ts := ts) (en := en) hn 8 ⟨0, 0, 0⟩)
  have HF : Hid (∃ y s s2, exprF ts en n 8 ⟨0, 0, 0⟩ = (y, s) ∧ (if s.p < n then failF ts en s 1 else s) = s2 ∧ readF ts en n = if s2.fe ≠ 0 then (zeroPE, s2.fa, s2.fe) else if y.ty = 0 then (zeroPE, 0, 1) else (y, 0, 0)) := Lib.hid ⟨_, _, _, rfl, rfl, rfl⟩
  obtain ⟨y, s, s2, e1, e2, e3⟩ := HF.out
  rw [e1] at HX HSM
  have HS2 := Lib.hid e2; have HRF := Lib.hid e3
  generalize readF ts en n = rr at *
  clear h hb1 hb2 e1 e2 e3 HF hsz
  have HG := Lib.hid (show ∃ g, w.heap.size = g from ⟨_, rfl⟩)
  have HG1 := Lib.hid (show ∃ g, w.heap.size + 1 = g from ⟨_, rfl⟩)
  go_enter Tryz.func52, Tryz.ntmps52
  go_upto_region 2 with fail
  obtain ⟨bx, hbx⟩ := HG1.out
  rw [hbx] at HRD HX ⊢
  obtain ⟨g4, hg4⟩ := HG.out
  have HGE := Lib.hid hg4
  have HGB := Lib.hid (show g4 < bx by omega)
  rw [hg4] at HZ ⊢
  clear HG HG1 hbx hg4
  generalize (w.alloc (.cells #[.int .i64 0, .int .i64 0, .slice none 0 0, .slice none 0 0, .slice none 0 0] 26)).alloc (.cells #[.slice A n c, .int .i64 0, .int .i64 en, .int .i64 0, .int .i64 0] 103) = W2 at *
  go_wp2_with fail
  (with_reducible refine HX.out.mono ?_); rintro e w3 hx
  obtain ⟨xk, xn, A1, c1, xms, A2, c2, xns, A3, c3, xks, rfl, hp, hf, hm⟩ := hx.forms
  have HRX : Hid (RxAt A n c ts en s w g4 bx w3.heap.size ((XE.mk xk xn (.slice A1 xms.length c1) xms (.slice A2 xns.length c2) xns (.slice A3 xks.length c3) xks)) (w3.alloc (.cells #[.int .i64 xk, .int .i64 xn, .slice A1 xms.length c1, .slice A2 xns.length c2, .slice A3 xks.length c3] 26))) := Lib.hid (by
    have hlb := HRD.out.blk.lt
    have hs := hm.only.size
    have hg := HGE.out
    have hgb := HGB.out
    refine ⟨hm.rd.alloc _, (HZ.out.only hm.only (by omega)).alloc _, Blk.mk (heap_alloc_new w3 _), (hf.mono (fun q hq hh => ?_)).below ((Below.refl _ _).alloc (Nat.le_refl _) _), (below_only HB.out hm.only (by omega) HB.out.size).alloc (Nat.le_trans HB.out.size hs) _, by omega, hgb, by omega⟩
    have hzl := HZ.out.lt
    rcases hh with hh | hh | hh | hh
    · have := HB.out.size; omega
    · omega
    · omega
    · omega)
  have HP : Hid (((XE.mk xk xn (.slice A1 xms.length c1) xms (.slice A2 xns.length c2) xns (.slice A3 xks.length c3) xks)).pe = y) := Lib.hid hp
  have HSX : Hid (((XE.mk xk xn (.slice A1 xms.length c1) xms (.slice A2 xns.length c2) xns (.slice A3 xks.length c3) xks)).pe.small) := Lib.hid (by rw [hp]; exact HSM.out)
  clear hx hp hf hm HX HRD HZ HB HSM
  have HG8 := Lib.hid (show ∃ g, w3.heap.size = g from ⟨_, rfl⟩)
  go_upto_region 3 with fail
  obtain ⟨g8, hg8⟩ := HG8.out
  rw [hg8] at HRX ⊢
  clear HG8 hg8
  generalize w3.alloc (.cells #[.int .i64 xk, .int .i64 xn, .slice A1 xms.length c1, .slice A2 xns.length c2, .slice A3 xks.length c3] 26) = W4 at *
  obtain ⟨c0, c1', c2', c3', c4⟩ := HRX.out.rd.cells
  obtain ⟨pb, hpb⟩ : ∃ p, decide ((s.p : Int) < n) = p := ⟨_, rfl⟩
  have hpb2 : decide (s.p < n) = pb := by rw [← hpb]; exact decide_eq_decide.2 (by omega)
  have HPB := Lib.hid hpb2
  go_cut [24] from 15 to 24 (fun y24 wx => y24 = .bool pb ∧ RxAt A n c ts en s w g4 bx g8 ((XE.mk xk xn (.slice A1 xms.length c1) xms (.slice A2 xns.length c2) xns (.slice A3 xks.length c3) xks)) wx)
  case first =>
    go_quiet (fail)
    go_wp2_with fail
    go_meet
    exact ⟨rfl, HRX.out.below (below_dn _ _)⟩
  case rest =>
    obtain ⟨rfl, hat⟩ := hcut
    clear HRX c0 c1' c2' c3' c4 hpb hpb2
    have HA := Lib.hid hat
    clear hat
    go_upto_if 24 with fail
    go_cut [] from 25 to 26 (fun wx => RxAt A n c ts en s2 w g4 bx g8 ((XE.mk xk xn (.slice A1 xms.length c1) xms (.slice A2 xns.length c2) xns (.slice A3 xks.length c3) xks)) wx)
    case first =>
      cases pb with
      | true =>
        have hpn : s.p < n := of_decide_eq_true HPB.out
        have HC := Lib.hid (fail_any bx A n c ts en s 1 _ HA.out.rd)
        rw [show failF ts en s 1 = s2 by rw [← HS2.out, if_pos hpn]] at HC
        clear hpn
        go_wp2_with fail
        (with_reducible refine HC.out.mono ?_); rintro e wf ⟨rfl, hm⟩
        have HX := Lib.hid (HA.out.moved hm)
        clear hm
        go_wp2_with fail
        go_meet
        exact HX.out
      | false =>
        have hpn : ¬ s.p < n := of_decide_eq_false HPB.out
        have HE := Lib.hid (show s = s2 by rw [← HS2.out, if_neg hpn])
        clear hpn
        go_wp2_with fail
        go_meet
        rw [← HE.out]; exact HA.out
    case rest =>
      have HA2 := Lib.hid hcut
      clear hcut HA HS2 HPB
      obtain ⟨c0, c1', c2', c3', c4⟩ := HA2.out.rd.cells
      obtain ⟨z0, z1, z2, z3, z4⟩ := blk_cells5 HA2.out.z
      obtain ⟨f0, f1, f2, f3, f4⟩ := blk_fr HA2.out.z
      obtain ⟨x0, x1, x2, x3, x4⟩ := blk_cells5 HA2.out.xb
      simp only [XE.kd, XE.n, XE.mv, XE.nv, XE.kv] at x0 x1 x2 x3 x4
      by_cases hfe : s2.fe = 0
      · have t1 : (s2.fe != 0) = false := by rw [hfe]; rfl
        have HTY := Lib.hid (type_any 9 ((XE.mk xk xn (.slice A1 xms.length c1) xms (.slice A2 xns.length c2) xns (.slice A3 xks.length c3) xks)) wc HSX.out HA2.out.far.now)
        rw [HP.out] at HTY
        unfold XE.val XE.kd XE.n XE.mv XE.nv XE.kv at HTY
        simp only at HTY
        by_cases hty : y.ty = 0
        · have HE := Lib.hid (show rr = (zeroPE, 0, 1) by rw [HRF.out, if_neg (by rw [hfe]; simp), if_pos hty])
          rw [hty] at HTY
          clear hfe hty
          go_wp2_with fail
          (with_reducible refine HTY.out.mono ?_); rintro e w2 ⟨rfl, hb2⟩
          have HA3 := Lib.hid (HA2.out.below hb2)
          clear hb2 z0 z1 z2 z3 z4 f0 f1 f2 f3 f4 x0 x1 x2 x3 x4 c0 c1' c2' c3' c4
          obtain ⟨z0, z1, z2, z3, z4⟩ := blk_cells5 HA3.out.z
          obtain ⟨f0, f1, f2, f3, f4⟩ := blk_fr HA3.out.z
          have HQ := Lib.hid (set5W_blk HA3.out.z (.int .i64 0) (.int .i64 0) (.slice none 0 0) (.slice none 0 0) (.slice none 0 0))
          have HANS := Lib.hid (HA3.out.ans (r := rr) (y := zeroXE) (by rw [HE.out]; rfl) (zeroXE_far _ _ 8))
          go_wp2_with fail
          obtain ⟨q0, q1, q2, q3, q4⟩ := blk_cells5 HQ.out
          unfold set5W at q0 q1 q2 q3 q4
          refine bodyPost_ret (v := .tuple #[.agg #[.int .i64 0, .int .i64 0, .slice none 0 0, .slice none 0 0, .slice none 0 0], .int .i64 0, .int .i64 1]) (by simp [results, Tryz.results52, go_sem, q0, q1, q2, q3, q4]) rfl ?_
          have hans := HANS.out
          rw [HE.out] at hans ⊢; exact hans
        · have t2 : (y.ty == 0) = false := by rw [beq_eq_false_iff_ne]; exact hty
          have HE := Lib.hid (show rr = (y, 0, 0) by rw [HRF.out, if_neg (by rw [hfe]; simp), if_neg hty])
          clear hfe hty
          go_wp2_with fail
          (with_reducible refine HTY.out.mono ?_); rintro e w2 ⟨rfl, hb2⟩
          have HA3 := Lib.hid (HA2.out.below hb2)
          clear hb2 z0 z1 z2 z3 z4 f0 f1 f2 f3 f4 x0 x1 x2 x3 x4 c0 c1' c2' c3' c4
          obtain ⟨z0, z1, z2, z3, z4⟩ := blk_cells5 HA3.out.z
          obtain ⟨f0, f1, f2, f3, f4⟩ := blk_fr HA3.out.z
          obtain ⟨x0, x1, x2, x3, x4⟩ := blk_cells5 HA3.out.xb
          simp only [XE.kd, XE.n, XE.mv, XE.nv, XE.kv] at x0 x1 x2 x3 x4
          have HQ := Lib.hid (set5W_blk HA3.out.z (.int .i64 xk) (.int .i64 xn) (.slice A1 xms.length c1) (.slice A2 xns.length c2) (.slice A3 xks.length c3))
          have HANS := Lib.hid (HA3.out.ans (r := rr) (y := (XE.mk xk xn (.slice A1 xms.length c1) xms (.slice A2 xns.length c2) xns (.slice A3 xks.length c3) xks)) (by rw [HE.out]; exact HP.out) (HA3.out.far.mono (fun q _ hq => by
            rcases hq with hq | hq
            · exact .inl hq
            · exact .inr (.inl hq))))
          go_wp2_with fail
          obtain ⟨q0, q1, q2, q3, q4⟩ := blk_cells5 HQ.out
          unfold set5W at q0 q1 q2 q3 q4
          refine bodyPost_ret (v := .tuple #[.agg #[.int .i64 xk, .int .i64 xn, .slice A1 xms.length c1, .slice A2 xns.length c2, .slice A3 xks.length c3], .int .i64 0, .int .i64 0]) (by simp [results, Tryz.results52, go_sem, q0, q1, q2, q3, q4]) rfl ?_
          have hans := HANS.out
          rw [HE.out] at hans ⊢; exact hans
      · have t1 : (s2.fe != 0) = true := by rw [bne_iff_ne]; exact hfe
        have HE := Lib.hid (show rr = (zeroPE, s2.fa, s2.fe) by rw [HRF.out, if_pos hfe])
        clear hfe x0 x1 x2 x3 x4
        go_upto_region 6 with fail
        have HA3 := Lib.hid (show RxAt A n c ts en s2 w g4 bx g8 ((XE.mk xk xn (.slice A1 xms.length c1) xms (.slice A2 xns.length c2) xns (.slice A3 xks.length c3) xks)) wc.drew from HA2.out.below (Below.refl _ _).drew)
        obtain ⟨z0', z1', z2', z3', z4'⟩ := blk_cells5 HA3.out.z
        have hne1 : g4 ≠ bx := Nat.ne_of_lt HGB.out
        have hne2 : bx ≠ g4 := Ne.symm hne1
        obtain ⟨f0', f1', f2', f3', f4'⟩ := blk_fr HA3.out.z
        have HQ := Lib.hid (set5W_blk HA2.out.z (.int .i64 0) (.int .i64 0) (.slice none 0 0) (.slice none 0 0) (.slice none 0 0))
        have HANS := Lib.hid (HA3.out.ans (r := rr) (y := zeroXE) (by rw [HE.out]; rfl) (zeroXE_far _ _ 8))
        go_region
        obtain ⟨q0, q1, q2, q3, q4⟩ := blk_cells5 HQ.out
        unfold set5W at q0 q1 q2 q3 q4
        all_goals go_wp2_with fail
        refine bodyPost_ret (v := .tuple #[.agg #[.int .i64 0, .int .i64 0, .slice none 0 0, .slice none 0 0, .slice none 0 0], .int .i64 s2.fa, .int .i64 s2.fe]) (by simp [results, Tryz.results52, go_sem, q0, q1, q2, q3, q4]) rfl ?_
        have hans := HANS.out
        rw [HE.out] at hans ⊢; exact hans
end Go.Proofs.YtcaapbbbekggiaaGreatDoor
