/- klaxonlaw4.SeriesPlays: the walk. -/
import Derived.Test.YtlcpnlmfnllgmaaSeriesRuns
import Derived.Test.YtlcpnlmfnllgmaaPlayMath
import Derived.Test.YtlcpnlmfnllgmaaRoomySmp2
import Derived.Test.YtlcpnlmfnllgmaaArgsRows
import Derived.Test.YtlcpnlmfnllgmaaArgsPair
import Derived.Test.YtlcpnlmfnllgmaaFresh
import Derived.Test.YtlcpnlmfnllgmaaFacts
import Derived.Deep.CutBlock
import Derived.BigQuiet
import Derived.Deep.QuietTactic
import Derived.IntWalk
import Derived.Deep.LoopGhost
import Derived.Deep.DeepCutAuto
namespace Go.Proofs.Ytlcpnlmfnllgmaa
open Go.ChangeShapes Go.WideShapes Go.ChangeAt Go.RowKit
set_option linter.unusedVariables false
set_option linter.unusedSimpArgs false
set_option maxRecDepth 100000
/-- A call of the law. -/
structure SAsk where
  kd : Int
  a : Int
  b : Int
  A : Option Addr
  n : Nat
  c : Nat
  l : List (Int × Int)
instance : Inhabited SAsk := ⟨⟨0, 0, 0, none, 0, 0, []⟩⟩
structure SAsk.ok (q : SAsk) (w : World) (B : Nat) : Prop where
  k : I64 q.kd
  a : I64 q.a
  b : I64 q.b
  l : Sees w B 2 q.A q.n (smps q.l)
  nc : q.n ≤ q.c
  c : q.c ≤ 9223372036854775807
def SAsks (w : World) (B : Nat) (A : Option Addr) (qs : List SAsk) : Prop :=
  ∀ i (h : i < qs.length), ∃ ad, A = some ad ∧ ad.block < B ∧ w.cell? (ad.add (i * 4)) = some (.int .i64 qs[i].kd) ∧ w.cell? ⟨(ad.add (i * 4)).block, (ad.add (i * 4)).off + 1, none⟩ = some (.int .i64 qs[i].a) ∧
    w.cell? ⟨(ad.add (i * 4)).block, (ad.add (i * 4)).off + 2, none⟩ = some (.int .i64 qs[i].b) ∧ w.cell? ⟨(ad.add (i * 4)).block, (ad.add (i * 4)).off + 3, none⟩ = some (.slice qs[i].A qs[i].n qs[i].c) ∧ qs[i].ok w B
theorem SAsks.below {w w' : World} {B : Nat} {A : Option Addr} {qs : List SAsk} (h : SAsks w B A qs) (hb : Below B w w') : SAsks w' B A qs := fun i hi => by
  obtain ⟨ad, e, hB, c0, c1, c2, c3, hk⟩ := h i hi
  have hb2 : ∀ o, w'.cell? ⟨(ad.add (i * 4)).block, o, none⟩ = w.cell? ⟨(ad.add (i * 4)).block, o, none⟩ := fun o => hb.cell (p := ⟨_, o, none⟩) (by rw [add_block]; exact hB)
  exact ⟨ad, e, hB, (hb.cell (by rw [add_block]; exact hB)).trans c0, (hb2 _).trans c1, (hb2 _).trans c2, (hb2 _).trans c3, ⟨hk.k, hk.a, hk.b, hk.l.below hb, hk.nc, hk.c⟩⟩
theorem arg_sasks {w : World} {base : Nat} {spare : Nat → Bool} {held : Bool} {H : Type} {enc : TypeId × Value → H} {fuel : Nat} {a0 : Option Addr} {len cap : Nat} {x : DataW H × List MemPlace}
    (h : DataW.trod enc Try.prog w base spare held fuel 22 (Value.slice a0 len cap).cells.toList = some x) :
    ∃ zs : List SAsk, SAsks w w.heap.size a0 zs ∧ zs.length = len ∧ len ≤ cap ∧ cap ≤ 9223372036854775807 := by
  obtain ⟨V, h1, h2, h3, h4⟩ := arg_rows (K := 4) Try.underlying22 Try.underlying27 (by kernel_rfl) (by omega) (by
    intro j f hj
    match j, hj with
    | 0, hj => simp at hj; subst hj; exact ⟨rfl, by kernel_rfl, by omega⟩
    | 1, hj => simp at hj; subst hj; exact ⟨rfl, by kernel_rfl, by omega⟩
    | 2, hj => simp at hj; subst hj; exact ⟨rfl, by kernel_rfl, by omega⟩
    | 3, hj => simp at hj; subst hj; exact ⟨rfl, by kernel_rfl, by omega⟩
    | j + 4, hj => simp at hj) h
  have each : ∀ i, i < len → ∃ q : SAsk, V i 0 = .int .i64 q.kd ∧ V i 1 = .int .i64 q.a ∧ V i 2 = .int .i64 q.b ∧ V i 3 = .slice q.A q.n q.c ∧ q.ok w w.heap.size := by
    intro i hi
    obtain ⟨_, _, g0⟩ := h4 i 0 _ hi rfl
    obtain ⟨_, _, g1⟩ := h4 i 1 _ hi rfl
    obtain ⟨_, _, g2⟩ := h4 i 2 _ hi rfl
    obtain ⟨_, _, g3⟩ := h4 i 3 _ hi rfl
    obtain ⟨z0, e0, w0⟩ := cell_int Try.underlying3 g0
    obtain ⟨z1, e1, w1⟩ := cell_int Try.underlying3 g1
    obtain ⟨z2, e2, w2⟩ := cell_int Try.underlying3 g2
    obtain ⟨a, n, c, e3, g4⟩ := cell_slice Try.underlying23 g3
    obtain ⟨zs, s1, s2, s3, _⟩ := arg_pairs Try.underlying23 Try.underlying30 (by kernel_rfl) rfl rfl (by kernel_rfl) (by kernel_rfl) Try.underlying3 Try.underlying3 g4
    exact ⟨⟨z0, z1, z2, a, n, c, zs⟩, e0, e1, e2, e3, ⟨wf_of w0, wf_of w1, wf_of w2, s1, s2, s3⟩⟩
  obtain ⟨q, hq⟩ := Deep.choose_lt each
  refine ⟨(List.range len).map q, fun i hi => ?_, by simp, h2, h3⟩
  have hi' : i < len := by simpa using hi
  obtain ⟨ad, e, hB, hc⟩ := h1 (by omega)
  obtain ⟨e0, e1, e2, e3, hk⟩ := hq i hi'
  have hg : ((List.range len).map q)[i] = q i := by simp
  rw [hg]
  refine ⟨ad, e, hB, ?_, ?_, ?_, ?_, hk⟩
  · rw [← e0]; exact hc i 0 hi' (by omega)
  · rw [← e1, add_spelt ad (i * 4) 1 (by omega)]; exact hc i 1 hi' (by omega)
  · rw [← e2, add_spelt ad (i * 4) 2 (by omega)]; exact hc i 2 hi' (by omega)
  · rw [← e3, add_spelt ad (i * 4) 3 (by omega)]; exact hc i 3 hi' (by omega)
theorem Sees.only {w w' : World} {g B size n : Nat} {A : Option Addr} {xs : List Value} (h : Sees w B size A n xs) (ho : Only g w w') (hB : B ≤ w.heap.size) (hA : ∀ ad, A = some ad → ad.block ≠ g) : Sees w' B size A n xs :=
  ⟨h.len, fun hn => by
    obtain ⟨ad, e, hb, hc⟩ := h.at_ hn
    exact ⟨ad, e, hb, fun j u hu => (World.cell?_of_block (by rw [add_block]; exact ho.block _ (by omega) (hA ad e))).trans (hc j u hu)⟩⟩
/-- Where the law stands: its series, its own list. -/
structure PAt (w0 : World) (g : Nat) (v4 : Value) (os : List (Int × Int)) (w : World) : Prop where
  ser : ∃ v, SerAt os w g v
  slc : ∃ A c, v4 = .slice A os.length c ∧ Sees w w.heap.size 2 A os.length (smps os) ∧ (∀ ad, A = some ad → ad.block ≠ g) ∧ os.length ≤ c ∧ c ≤ 9223372036854775807
  bel : Below w0.heap.size w0 w
  hg : w0.heap.size ≤ g
theorem PAt.below {w0 w w' : World} {g : Nat} {v : Value} {os : List (Int × Int)} (h : PAt w0 g v os w) (hb : Below w.heap.size w w') : PAt w0 g v os w' := by
  obtain ⟨u, hu⟩ := h.ser
  obtain ⟨A, c, e, hs, hA, h1, h2⟩ := h.slc
  exact ⟨⟨u, hu.below hb⟩, ⟨A, c, e, (hs.below hb).more hb.size, hA, h1, h2⟩, h.bel.trans (hb.mono h.bel.size), h.hg⟩
theorem PAt.only {w0 w w' : World} {g : Nat} {v : Value} {os : List (Int × Int)} (h : PAt w0 g v os w) (ho : Only g w w') {os' : List (Int × Int)} {v' u : Value} (hu : SerAt os' w' g u)
    (hs : ∃ A c, v' = .slice A os'.length c ∧ Sees w w.heap.size 2 A os'.length (smps os') ∧ (∀ ad, A = some ad → ad.block ≠ g) ∧ os'.length ≤ c ∧ c ≤ 9223372036854775807) : PAt w0 g v' os' w' := by
  obtain ⟨A, c, e, hs, hA, h1, h2⟩ := hs
  exact ⟨⟨u, hu⟩, ⟨A, c, e, (hs.only ho (Nat.le_refl _) hA).more ho.size, hA, h1, h2⟩, h.bel.trans (ho.below h.hg h.bel.size), h.hg⟩
def SAft (w0 : World) (g : Nat) (v4 : Value) (w : World) : Prop := ∃ os, PAt w0 g v4 os w ∧ Ris os
theorem box2 {V : World} {b : Nat} {t : TypeId} {x y : Value} (h : Blk V b t [x, y]) : V.cell? ⟨b, 0, none⟩ = some x ∧ V.cell? ⟨b, 1, none⟩ = some y := ⟨h.cell 0, h.cell 1⟩
theorem box4 {V : World} {b : Nat} {t : TypeId} {x y z u : Value} (h : Blk V b t [x, y, z, u]) : V.cell? ⟨b, 0, none⟩ = some x ∧ V.cell? ⟨b, 1, none⟩ = some y ∧ V.cell? ⟨b, 2, none⟩ = some z ∧ V.cell? ⟨b, 3, none⟩ = some u := ⟨h.cell 0, h.cell 1, h.cell 2, h.cell 3⟩
theorem Blk.drewP {w : World} {g : Nat} {t : TypeId} {cs : List Value} (h : Blk w g t cs) : Blk w.drew g t cs := h
theorem PAt.cells {w0 w : World} {g N c : Nat} {A : Option Addr} {os : List (Int × Int)} (h : PAt w0 g (.slice A N c) os w) : os.length = N ∧ Sees w w.heap.size 2 A N (smps os) ∧ (∀ ad, A = some ad → ad.block ≠ g) ∧ N ≤ c ∧ c ≤ 9223372036854775807 := by
  obtain ⟨A', c', e, h1, h2, h3, h4⟩ := h.slc
  injection e with e1 e2 e3
  subst e1; subst e2; subst e3
  exact ⟨rfl, h1, h2, h3, h4⟩
theorem atF_none {os : List (Int × Int)} {t look : Int} (h : (atF os t look).2 = false) : (atF os t look).1 = 0 := by
  unfold atF at h ⊢
  split at h
  · rfl
  · rename_i j hj
    by_cases h2 : (os.getD j (0, 0)).1 ≤ t - look
    · simp only [if_pos h2]
    · rw [if_neg h2] at h; cases h
theorem smps_drop (ss : List (Int × Int)) (k : Nat) : (smps ss).drop (k * 2) = smps (ss.drop k) := by
  rcases Nat.lt_or_ge k ss.length with h | h
  · have e : smps ss = smps (ss.take k) ++ smps (ss.drop k) := by rw [← smps_append, List.take_append_drop]
    have hl : (smps (ss.take k)).length = k * 2 := by rw [smps_length, List.length_take]; omega
    rw [e, ← hl, List.drop_left]
  · rw [List.drop_eq_nil_of_le (by rw [smps_length]; omega), List.drop_eq_nil_of_le h]; rfl
/-- What the reference's At tells. -/
def RefAt (os : List (Int × Int)) (t look : Int) (w : World) (e : Ending) (w' : World) : Prop := ∃ z, e = .returned (.tuple #[.int .i64 z, .bool (atF os t look).2]) ∧ ((atF os t look).2 = true → z = (atF os t look).1) ∧ ∃ m, w' = w.drewN m
theorem refAt_mk {os : List (Int × Int)} {t look z : Int} {w w' : World} {e : Ending} {b : Bool} (hb : (atF os t look).2 = b) (he : e = .returned (.tuple #[.int .i64 z, .bool b])) (hz : b = true → z = (atF os t look).1) (hw : ∃ m, w' = w.drewN m) : RefAt os t look w e w' :=
  ⟨z, by rw [he, hb], fun h => hz (by rw [← hb]; exact h), hw⟩
theorem ref_at (A : Option Addr) (n c B : Nat) (os : List (Int × Int)) (t look : Int) (w : World) (hs : Sees w B 2 A n (smps os)) (hr : Ris os) (ht : -4611686018427387904 ≤ t ∧ t ≤ 4611686018427387903) (hl : -4611686018427387904 ≤ look ∧ look ≤ 4611686018427387903) :
    Calls Try.prog 10 #[.slice A n c, .int .i64 t, .int .i64 look] w (RefAt os t look w) := by
  have HS := Lib.hid hs; have HR := Lib.hid hr; have HL := Lib.hid hs.smp_len
  have hn : n ≤ 200 := by have := hr.few; have := hs.smp_len; omega
  clear hs hr
  have hn1 : IntKind.i64.wrap (((n : Nat) : Int) - 1) = ((n : Nat) : Int) - 1 := IntWalk.i64_in _ (by omega)
  go_enter Try.func10, Try.ntmps10
  go_wp2_with fail
  go_loopg [8] n (fun gk x8 wr => ∃ z : Int, z + 1 = gk ∧ gk ≤ n ∧ x8 = .int .i64 z ∧ wr = w ∧ ∀ j (hj : j < os.length), gk ≤ j → t < os[j].1)
  case atStart => exact ⟨_, by omega, Nat.le_refl _, rfl, rfl, fun j hj h => by have := HL.out; omega⟩
  case round =>
    obtain ⟨z, hz, hgn, rfl, rfl, hab⟩ := hrel
    have HAB := Lib.hid hab
    clear hab hn1
    cases gk with
    | zero =>
      obtain rfl : z = -1 := by omega
      have HE := Lib.hid (atF_zero (ss := os) (t := t) (look := look) (nBeh_of (Nat.zero_le _) (fun i h hi => absurd hi (Nat.not_lt_zero _)) (fun h => HAB.out 0 h (Nat.zero_le _))))
      go_wp2_with fail
      go_ret2
      exact refAt_mk (b := false) (by rw [HE.out]) rfl (fun h => by cases h) ⟨0, rfl⟩
    | succ k =>
      by_cases hk : k < os.length
      · obtain ⟨ad, hj, rfl, c0, c1⟩ := HS.out.smp (show k < n by have := HL.out; omega)
        obtain rfl : z = ((k : Nat) : Int) := by omega
        have hkn : k < n := by have := HL.out; omega
        have hrg := HR.out.in_ os[k] (List.getElem_mem _)
        by_cases ht2 : os[k].1 ≤ t
        · have HE := Lib.hid (atF_succ (ss := os) (t := t) (look := look) (j := k) (nBeh_of (k := k + 1) (by omega) (fun i h hi => by
            rcases Nat.lt_or_ge i k with h2 | h2
            · have := HR.out.up i k h2 hj; omega
            · have : i = k := by omega
              subst this; exact ht2) (fun h => HAB.out _ h (Nat.le_refl _))) hj)
          clear HAB HR
          generalize os[k] = p at *
          obtain ⟨y, u⟩ := p
          simp only at c0 c1 ht2 hrg HE
          have i1 : IntKind.i64.wrap (t - look) = t - look := IntWalk.i64_in _ (by omega)
          by_cases hlk : y ≤ t - look
          · have hd : decide (t - look < y) = false := by simp; omega
            have hd2 : ¬ t - look < y := by omega
            rw [if_pos hlk] at HE
            go_wp2_with fail
            go_quiet (fail)
            go_wp2_with fail
            go_ret2
            exact refAt_mk (b := false) (by rw [HE.out]) rfl (fun h => by cases h) ⟨_, rfl⟩
          · have hd : decide (t - look < y) = true := by simp; omega
            have hd2 : t - look < y := by omega
            rw [if_neg hlk] at HE
            go_wp2_with fail
            go_quiet (fail)
            go_wp2_with fail
            go_ret2
            exact refAt_mk (b := true) (by rw [HE.out]) rfl (fun _ => by rw [HE.out]) ⟨_, rfl⟩
        · have HAB2 := Lib.hid (show ∀ j (hj : j < os.length), k ≤ j → t < os[j].1 from fun j hj h => by
            rcases Nat.lt_or_ge k j with h2 | h2
            · exact HAB.out j hj h2
            · have : j = k := by omega
              subst this; omega)
          clear HAB HR
          generalize os[k] = p at *
          obtain ⟨y, u⟩ := p
          simp only at c0 c1 ht2 hrg
          have i1 : IntKind.i64.wrap (((k : Nat) : Int) - 1) = ((k : Nat) : Int) - 1 := IntWalk.i64_in _ (by omega)
          go_wp2_with fail
          go_roundg k
          case measure => omega
          case rel => exact ⟨_, by omega, by omega, rfl, rfl, HAB2.out⟩
      · exact absurd HL.out (by omega)
set_option maxHeartbeats 16000000 in
theorem series_plays (A : Option Addr) (n cA : Nat) (qs : List SAsk) (w : World) (hq : SAsks w w.heap.size A qs) (hl : qs.length = n) (hn : n ≤ 9223372036854775807) :
    Calls Try.prog 3 #[.slice A n cA] w fun e w' => e = .returned (.bool true) ∧ Below w.heap.size w w' := by
  have HQ := Lib.hid hq; have HL := Lib.hid hl
  clear hq hl
  obtain ⟨K, hK⟩ : ∃ K, min n 30 = K := ⟨_, rfl⟩
  have hK1 : K ≤ n ∧ K ≤ 30 := by omega
  obtain ⟨hKn, hK3⟩ := hK1
  have HK := Lib.hid hK
  clear hK
  obtain ⟨i0, hi, hz0, hz1, hz2⟩ := info_parts Try.infoSmp
  have HP0 := Lib.hid (show PAt w w.heap.size (.slice none 0 0) [] (w.alloc (.cells #[.slice none 0 0] 25)) from
    ⟨⟨_, new_ser⟩, ⟨none, 0, rfl, Sees.nil, (fun _ h => by cases h), Nat.le_refl _, by omega⟩, (Below.refl _ _).alloc (Nat.le_refl _) _, Nat.le_refl _⟩)
  go_enter Try.func3, Try.ntmps3
  go_wp2_with fail
  generalize hgg : w.heap.size = g at HP0 ⊢
  have HGG := Lib.hid hgg
  clear hgg
  go_loopg [4, 5] K (fun gk x4 x5 wr => ∃ (i : Nat) (os : List (Int × Int)), i + gk = K ∧ x5 = .int .i64 i ∧ PAt w g x4 os wr ∧ Ris os)
  case atStart => exact ⟨0, [], by omega, rfl, HP0.out, Ris.nil⟩
  case round =>
    obtain ⟨i, os, hig, rfl, hp, hri⟩ := hrel
    have HP := Lib.hid hp; have HR := Lib.hid hri
    clear hp hri HP0
    cases gk with
    | zero =>
      obtain rfl : i = K := by omega
      have hK' := HK.out
      have HF := Lib.hid HP.out.bel
      have hcs : (i < n ∧ ¬ i < 30) ∨ ¬ i < n := by omega
      clear HP hK'
      rcases hcs with ⟨h1, h2⟩ | h1
      all_goals
        go_wp2_with fail
        (with_reducible refine (series_runs _).mono ?_); rintro e wq ⟨rfl, hbq⟩
        have HF2 := Lib.hid (HF.out.trans (hbq.mono HF.out.size))
        clear hbq
        go_wp2_with fail
        go_ret
        exact ⟨rfl, HF2.out⟩
    | succ gout =>
      have hiK : i < K := by omega
      have hin : i < n := by omega
      have hi30 : i < 30 := by omega
      have hi30i : ((i : Nat) : Int) < 30 := by omega
      have hi30d : decide (((i : Nat) : Int) < 30) = true := decide_eq_true hi30i
      obtain ⟨adz, rfl, hab, e0, e1, e2, e3, hok⟩ := HQ.out.below HP.out.bel i (by rw [HL.out]; exact hin)
      have HOK := Lib.hid (show (qs[i]'(by rw [HL.out]; exact hin)).ok (wr.alloc (.cells #[.int .i64 (qs[i]'(by rw [HL.out]; exact hin)).kd, .int .i64 (qs[i]'(by rw [HL.out]; exact hin)).a, .int .i64 (qs[i]'(by rw [HL.out]; exact hin)).b, .slice (qs[i]'(by rw [HL.out]; exact hin)).A (qs[i]'(by rw [HL.out]; exact hin)).n (qs[i]'(by rw [HL.out]; exact hin)).c] 27)) w.heap.size from
        ⟨hok.k, hok.a, hok.b, hok.l.below ((Below.refl _ _).alloc HP.out.bel.size _), hok.nc, hok.c⟩)
      clear hok
      generalize qs[i]'(by rw [HL.out]; exact hin) = q at *
      go_upto_block 2 with fail
      obtain ⟨W, hW⟩ : ∃ W, wr.alloc (.cells #[.int .i64 q.kd, .int .i64 q.a, .int .i64 q.b, .slice q.A q.n q.c] 27) = W := ⟨_, rfl⟩
      have HPW := Lib.hid (show PAt w g u4 os W from by rw [← hW]; exact HP.out.below ((Below.refl _ _).alloc (Nat.le_refl _) _))
      have HBX := Lib.hid (show Blk W wr.heap.size 27 [.int .i64 q.kd, .int .i64 q.a, .int .i64 q.b, .slice q.A q.n q.c] from by rw [← hW]; exact Blk.mk (heap_alloc_new wr _))
      have HGB := Lib.hid (show g ≠ wr.heap.size from by obtain ⟨u, hu⟩ := HP.out.ser; have := hu.1.lt; omega)
      rw [hW] at HOK ⊢
      clear hW e0 e1 e2 e3 HP
      generalize wr.heap.size = B6 at *
      obtain ⟨c0, c1, c2, c3⟩ := box4 HBX.out
      go_cut [4] (fun x4 wx => SAft w g x4 wx)
      case first =>
        obtain ⟨A4, c4, rfl, hs4, hg4, hc4, hd4⟩ := HPW.out.slc
        have HS4 := Lib.hid hs4; have HG4 := Lib.hid hg4
        clear hs4 hg4
        obtain ⟨v, hv⟩ := HPW.out.ser
        have HV := Lib.hid hv
        clear hv
        have hosl := HR.out.few
        by_cases hk1 : q.kd = 1
        · as_aux_lemma =>
          have b1 : (q.kd == 1) = true := by simp [hk1]
          clear hk1
          have hnc := HOK.out.nc
          have hB6 := HBX.out.lt
          obtain ⟨k, hk, hkq, hk8⟩ : ∃ k : Nat, min (q.n : Int) 8 = (k : Int) ∧ k ≤ q.n ∧ k ≤ 8 := ⟨min q.n 8, by omega, by omega, by omega⟩
          have hki : (if (8 : Int) < (q.n : Int) then (8 : Int) else (q.n : Int)) = (k : Int) := by split <;> omega
          have hT := HOK.out.l.take hkq
          rw [smps_take] at hT
          have hkl : (q.l.take k).length = k := by rw [List.length_take, HOK.out.l.smp_len]; omega
          have HKL := Lib.hid hkl
          have hkc : (k : Int) ≤ q.c := by omega
          have hk0 : (0 : Int) ≤ k := by omega
          have HT := Lib.hid (hT.alloc HPW.out.bel.size (.cells #[] 30))
          generalize q.l.take k = xs at *
          have HOE := Lib.hid (show (W.alloc (.cells #[] 30)).ownsRow W.heap.size 30 2 (.slice (some ⟨W.heap.size, 0, none⟩) 0 0) 0 [] from World.ownsRow_made W #[] 0 (Nat.le_refl _) (by unfold maxLen; omega) rfl)
          have HBE := Lib.hid ((Below.refl W.heap.size W).alloc (Nat.le_refl _) (.cells #[] 30))
          obtain ⟨N, hN⟩ : ∃ N, os.length = N := ⟨_, rfl⟩
          have HN := Lib.hid hN
          rw [hN] at hosl hc4 HS4 HPW ⊢
          clear hT hkl hN
          go_wp2_with (at_builtin; refine wpList_append_sees rfl (.tmp 43) (.tmp 50) 23 rfl W.heap.size 30 i0 (.agg #[.int .i64 0, .int .i64 0]) 2 16 Try.underlying23 hi hz0 hz1 hz2 rfl (by decide) _ 0 [] rfl HOE.out _ q.A k _ (smps xs) rfl HT.out (smps_one _) (by unfold maxLen; omega) (by omega) (by simp) ?_)
          intro v1 w1 hown1 hg1
          have HB1 := Lib.hid (HBE.out.grown hg1 HBE.out.size (fun b hb => (HOE.out.lt b hb).1))
          try simp only [Nat.zero_add, List.nil_append] at hown1
          have HO1 := Lib.hid hown1
          obtain ⟨A7, c7, rfl, hc7, hd7⟩ := own_slice HO1.out
          have HP1 := Lib.hid (HPW.out.below HB1.out)
          have HG7 := Lib.hid (show ∀ ad, A7 = some ad → ad.block ≠ g from fun ad h => by
            have h1 := (HO1.out.lt ad.block (by rw [h]; rfl)).1
            have h2 := HV.out.1.lt
            omega)
          clear hown1 hg1 HOE HBE HT hk hki hkc hnc
          have HRO := Lib.hid (roomy_smp A7 k c7 _ xs 7 0 w1 (Sees.of_own HO1.out) (Nat.le_refl _) (by omega))
          go_wp2_with fail
          (with_reducible refine HRO.out.mono ?_); rintro e w2 ⟨gR, rfl, hgR, hbR, hb2⟩
          have HX2 := Lib.hid (show Sees w2 w2.heap.size 2 A7 k (smps xs) from ((Sees.of_own HO1.out).below hb2).more hb2.size)
          have HF2 := Lib.hid hbR
          have HP2 := Lib.hid (HP1.out.below hb2)
          have hg2 : g ≠ gR := by obtain ⟨u, hu⟩ := HP1.out.ser; have := hu.1.lt; omega
          have hggb : g < w2.heap.size := by obtain ⟨u, hu⟩ := HP2.out.ser; exact hu.1.lt
          have HS2 := Lib.hid (HP2.out.cells.2.1)
          clear hgR hbR hb2 HRO HP1 HB1 HO1 HS4 HV HPW HBX
          have HOE := Lib.hid (show (w2.alloc (.cells #[] 30)).ownsRow w2.heap.size 30 2 (.slice (some ⟨w2.heap.size, 0, none⟩) 0 0) 0 [] from World.ownsRow_made w2 #[] 0 (Nat.le_refl _) (by unfold maxLen; omega) rfl)
          have HBE := Lib.hid ((Below.refl w2.heap.size w2).alloc (Nat.le_refl _) (.cells #[] 30))
          have HT := Lib.hid (HS2.out.alloc (Nat.le_refl _) (.cells #[] 30))
          go_wp2_with (at_builtin; refine wpList_append_sees rfl (.tmp 55) (.tmp 56) 23 rfl w2.heap.size 30 i0 (.agg #[.int .i64 0, .int .i64 0]) 2 16 Try.underlying23 hi hz0 hz1 hz2 rfl (by decide) _ 0 [] rfl HOE.out _ A4 N _ (smps os) rfl HT.out (smps_one _) (by unfold maxLen; omega) (by omega) (by simp) ?_)
          intro v3 w3 hown3 hg3
          have HB3 := Lib.hid (HBE.out.grown hg3 HBE.out.size (fun b hb => (HOE.out.lt b hb).1))
          try simp only [Nat.zero_add, List.nil_append] at hown3
          have HO3 := Lib.hid hown3
          clear hown3 hg3 HOE HBE HT HS2
          obtain ⟨B0, hBB⟩ : ∃ B0, w2.heap.size = B0 := ⟨_, rfl⟩
          rw [hBB] at HB3 HO3 HX2 hggb
          have HBB := Lib.hid hBB
          clear hBB
          go_wp2_with fail
          go_loopg [9, 10, 60] k (fun gk x9 x10 x60 wr => ∃ (j : Nat) (nx : List (Int × Int)) (want : Int), j + gk = k ∧ x60 = .int .i64 j ∧ x10 = .int .i64 want ∧ wr.ownsRow B0 30 2 x9 nx.length (smps nx) ∧ Ris nx ∧ LoopOk os xs j want nx ∧ Below B0 w2 wr)
          case atStart => exact ⟨0, os, 0, by omega, rfl, rfl, by rw [HN.out]; exact HO3.out, HR.out, LoopOk.start, HB3.out⟩
          case round =>
            obtain ⟨j, nx, want, hjg, rfl, rfl, hown, hrn, hlo, hbl⟩ := hrel
            have HO := Lib.hid hown; have HRN := Lib.hid hrn; have HLO := Lib.hid hlo; have HBL := Lib.hid hbl
            clear hown hrn hlo hbl HB3 HO3
            have hnl := HRN.out.few
            have hBw : B0 ≤ wr.heap.size := by have := HBL.out.size; rw [HBB.out] at this; exact this
            have HBL2 := Lib.hid (show Below w2.heap.size w2 wr from by rw [HBB.out]; exact HBL.out)
            cases gk with
            | zero =>
              obtain rfl : j = k := by omega
              have hends := HLO.out
              rw [← HKL.out] at hends
              obtain ⟨hE1, hE2⟩ := hends.ends
              have HE1 := Lib.hid hE1; have HE2 := Lib.hid hE2
              clear hends hE1 hE2 HLO
              have HP3 := Lib.hid (HP2.out.below HBL2.out)
              have HX3 := Lib.hid (show Sees wr wr.heap.size 2 A7 j (smps xs) from (HX2.out.below HBL.out).more hBw)
              have HF3 := Lib.hid (HF2.out.below HBL2.out HF2.out.lt)
              obtain ⟨v5, hv5⟩ := HP3.out.ser
              have HFS := Lib.hid (show Sees wr wr.heap.size 2 (some ⟨gR, 0, none⟩) j (smps xs) from HF3.out.sees (by rw [smps_length, HKL.out]) (by rw [smps_append]; exact List.prefix_append _ _))
              have HADD := Lib.hid (add_any os xs g v5 (some ⟨gR, 0, none⟩) j (j + 80) wr hv5 (by rw [HN.out]; omega) HFS.out (by omega) (by omega) (by omega))
              obtain ⟨A9, c9, rfl, hc9, hd9⟩ := own_slice HO.out
              have HG9 := Lib.hid (show ∀ ad, A9 = some ad → ad.block ≠ g from fun ad h => by
                have h1 := (HO.out.lt ad.block (by rw [h]; rfl)).1
                omega)
              obtain ⟨nl, hnl2⟩ : ∃ nl, nx.length = nl := ⟨_, rfl⟩
              have HNL := Lib.hid hnl2
              rw [hnl2] at hnl hc9 HO ⊢
              clear hnl2 hv5 HP2 HX2 HF2 HBL HBL2 HFS
              have hjj : ¬ ((j : Nat) : Int) < (j : Nat) := by omega
              have hgR1 : gR < wr.heap.size := HF3.out.lt
              have j1 : (j : Int) ≤ (j : Int) + 80 := by omega
              have j2 : j ≤ j + 80 := by omega
              go_wp2_with fail
              (with_reducible refine HADD.out.mono ?_); rintro e w4 ⟨v6, rfl, hs6, ho6⟩
              rw [HE1.out] at hs6 ⊢
              have HF4 := Lib.hid (show Blk w4 gR 30 (smps (xs ++ List.replicate 80 (7, 0))) from (ho6.block gR HF3.out.lt (fun e => hg2 e.symm)).trans HF3.out)
              have HI := Lib.hid (intact_smp (some ⟨gR, 0, none⟩) A7 j (j + 80) c7 xs 7 0 w4 (HF4.out.sees (by rw [smps_length, List.length_append, List.length_replicate, HKL.out]) (List.prefix_refl _)) ((HX3.out.only ho6 (Nat.le_refl _) HG7.out).more ho6.size) (by omega) (by omega))
              have HS6 := Lib.hid hs6; have HO6 := Lib.hid ho6
              clear hs6 ho6 HADD
              by_cases hw : want = 0
              · subst hw
                have HEX := Lib.hid (HE2.out rfl)
                have HP6 := Lib.hid (show PAt w g (.slice A9 nl c9) nx w4 from HP3.out.only HO6.out (by have h := HS6.out; rw [if_pos rfl, ← HEX.out] at h; exact h) ⟨A9, c9, by rw [HNL.out], by rw [HNL.out]; exact Sees.of_own HO.out, HG9.out, by rw [HNL.out]; exact hc9, hd9⟩)
                go_wp2_with fail
                (with_reducible refine HI.out.mono ?_); rintro e w7 ⟨rfl, hb7⟩
                have HP7 := Lib.hid (HP6.out.below hb7)
                clear hb7 HP6 HI HS6 HO6
                go_wp2_with fail
                go_meet
                exact ⟨nx, HP7.out, HRN.out⟩
              · have hw2 : (want != 0) = true := by simpa using hw
                have hw3 : (want == 0) = false := by simpa using hw
                have HP6 := Lib.hid (show PAt w g (.slice A4 N c4) os w4 from HP3.out.only HO6.out (by have h := HS6.out; rw [if_neg hw] at h; exact h) ⟨A4, c4, by rw [HN.out], by rw [HN.out]; exact HP3.out.cells.2.1, HP3.out.cells.2.2.1, by rw [HN.out]; exact hc4, hd4⟩)
                go_wp2_with fail
                (with_reducible refine HI.out.mono ?_); rintro e w7 ⟨rfl, hb7⟩
                have HP7 := Lib.hid (HP6.out.below hb7)
                clear hb7 HP6 HI HS6 HO6
                go_wp2_with fail
                go_meet
                exact ⟨os, HP7.out, HR.out⟩
            | succ g2 =>
              have hjk : j < k := by omega
              have hjk2 : ((j : Nat) : Int) < (k : Nat) := by omega
              obtain ⟨ad, hl, rfl, x0, x1⟩ := (HX2.out.below HBL.out).smp hjk
              obtain ⟨p, hp⟩ : ∃ p, xs[j] = p := ⟨_, rfl⟩
              rw [hp] at x0 x1
              obtain ⟨y, z⟩ := p
              simp only at x0 x1
              have HP := Lib.hid hp
              clear hp
              have HVB := Lib.hid (Blk.mk (heap_alloc_new wr (.cells #[.int .i64 y, .int .i64 z] 30)) : Blk _ _ 30 [.int .i64 y, .int .i64 z])
              have HVL := Lib.hid (HBL.out.alloc hBw (.cells #[.int .i64 y, .int .i64 z] 30))
              have HVO := Lib.hid (own_below HO.out ((Below.refl _ _).alloc (Nat.le_refl _) (.cells #[.int .i64 y, .int .i64 z] 30)) (Nat.le_refl _))
              have i1 : IntKind.i64.wrap (((j : Nat) : Int) + 1) = ((j : Nat) : Int) + 1 := IntWalk.i64_in _ (by omega)
              by_cases hw : want = 0
              · subst hw
                by_cases hy0 : y < 0
                · have HE := Lib.hid (HLO.out.form hl HP.out (.inl hy0))
                  go_wp2_with fail
                  go_roundg g2
                  case measure => omega
                  case rel => exact ⟨j + 1, nx, 1, by omega, by go_num, rfl, HVO.out, HRN.out, HE.out, HVL.out⟩
                by_cases hy1 : 1099511627776 < y
                · have HE := Lib.hid (HLO.out.form hl HP.out (.inr hy1))
                  go_wp2_with fail
                  go_roundg g2
                  case measure => omega
                  case rel => exact ⟨j + 1, nx, 1, by omega, by go_num, rfl, HVO.out, HRN.out, HE.out, HVL.out⟩
                go_upto_region 20 with fail
                obtain ⟨V, hV⟩ : ∃ V, wr.alloc (.cells #[.int .i64 y, .int .i64 z] 30) = V := ⟨_, rfl⟩
                rw [hV] at HVB HVL HVO ⊢
                clear hV
                have hVs : B0 ≤ V.heap.size := by have := HVL.out.size; rw [HBB.out] at this; exact this
                generalize wr.heap.size = BX at *
                obtain ⟨A9, c9, rfl, hc9, hd9⟩ := own_slice HVO.out
                obtain ⟨nl, hnl2⟩ : ∃ nl, nx.length = nl := ⟨_, rfl⟩
                have HNL := Lib.hid hnl2
                rw [hnl2] at hnl HVO hc9 ⊢
                clear hnl2
                obtain ⟨d0, d1⟩ := box2 HVB.out
                go_cut [80] (fun x80 wx => x80 = .bool (decide (y ≤ lastT nx)) ∧ ∃ m, wx = V.drewN m)
                case first =>
                  rcases Nat.eq_zero_or_pos nl with h0 | h0
                  · have hlz := HNL.out
                    rw [h0] at hlz
                    have hnil : nx = [] := List.eq_nil_of_length_eq_zero hlz
                    have HD := Lib.hid (show decide (y ≤ lastT nx) = false by rw [hnil, lastT_nil]; simp; omega)
                    subst h0
                    clear hlz hnil
                    go_quiet (fail)
                    go_wp2_with fail
                    go_meet
                    exact ⟨by rw [HD.out], _, rfl⟩
                  · obtain ⟨p, hp⟩ : ∃ p, nl = p + 1 := ⟨nl - 1, by omega⟩
                    have hpl : p < nl := by omega
                    have hpl2 : ((p : Nat) : Int) < (nl : Nat) := by omega
                    have hnp : (0 : Int) < (nl : Nat) := by omega
                    obtain ⟨ad9, hl9, rfl, y0, y1⟩ := (Sees.of_own HVO.out).smp hpl
                    have HLT := Lib.hid (show lastT nx = (nx[p]).1 by
                      have hlz := HNL.out
                      rw [lastT_at (by omega)]
                      simp only [show nx.length - 1 = p by omega])
                    have i2 : IntKind.i64.wrap (((nl : Nat) : Int) - 1) = ((p : Nat) : Int) := by rw [show ((nl : Nat) : Int) - 1 = ((p : Nat) : Int) by omega]; exact IntWalk.i64_in _ (by omega)
                    generalize nx[p] = r at *
                    obtain ⟨ry, rz⟩ := r
                    simp only at y0 y1 HLT
                    clear hp
                    by_cases hor : y ≤ ry
                    · have HD := Lib.hid (show decide (y ≤ lastT nx) = true by rw [HLT.out]; simpa using hor)
                      go_quiet (fail)
                      go_wp2_with fail
                      go_meet
                      exact ⟨by rw [HD.out], _, rfl⟩
                    · have HD := Lib.hid (show decide (y ≤ lastT nx) = false by rw [HLT.out]; simpa using hor)
                      go_quiet (fail)
                      go_wp2_with fail
                      go_meet
                      exact ⟨by rw [HD.out], _, rfl⟩
                case rest =>
                  obtain ⟨rfl, m, rfl⟩ := hcut
                  have HVL2 := Lib.hid (below_drewN3 HVL.out m)
                  have HVO2 := Lib.hid (own_below HVO.out (below_drewN3 (Below.refl _ _) m) (Nat.le_refl _))
                  obtain ⟨d0, d1⟩ := box2 (HVB.out.drewN m)
                  by_cases hor : y ≤ lastT nx
                  · have HE := Lib.hid (HLO.out.order hl HP.out hy0 hy1 hor)
                    have hd : decide (y ≤ lastT nx) = true := decide_eq_true hor
                    go_wp2_with fail
                    go_roundg g2
                    case measure => omega
                    case rel => exact ⟨j + 1, nx, 2, by omega, by go_num, rfl, by rw [HNL.out]; exact HVO2.out, HRN.out, HE.out, HVL2.out⟩
                  · have hd : decide (y ≤ lastT nx) = false := decide_eq_false hor
                    by_cases hfu : 200 ≤ nl
                    · have HE := Lib.hid (HLO.out.full hl HP.out hy0 hy1 hor (by rw [HNL.out]; exact hfu))
                      have hfu2 : (200 : Int) ≤ (nl : Nat) := by omega
                      go_wp2_with fail
                      go_roundg g2
                      case measure => omega
                      case rel => exact ⟨j + 1, nx, 8, by omega, by go_num, rfl, by rw [HNL.out]; exact HVO2.out, HRN.out, HE.out, HVL2.out⟩
                    · have HE := Lib.hid (HLO.out.next hl HP.out hy0 hy1 hor (by rw [HNL.out]; exact hfu))
                      have HRE := Lib.hid (HRN.out.snoc (y := y) (z := z) (by omega) (by omega) (by omega) (by rw [HNL.out]; omega))
                      have hfu2 : ¬ (200 : Int) ≤ (nl : Nat) := by omega
                      have HX3 := Lib.hid (show Sees ((V.drewN m).alloc (.cells #[.int .i64 y, .int .i64 z] 30)) ((V.drewN m).alloc (.cells #[.int .i64 y, .int .i64 z] 30)).heap.size 2 (some ⟨V.heap.size, 0, none⟩) 1 (smps [(y, z)]) from lit_smps (w := V.drewN m) (t := 30) [(y, z)])
                      have HL3 := Lib.hid (HVL2.out.alloc (by simpa using hVs) (.cells #[.int .i64 y, .int .i64 z] 30))
                      have HO3 := Lib.hid (own_below HVO2.out ((Below.refl _ _).alloc (Nat.le_refl _) (.cells #[.int .i64 y, .int .i64 z] 30)) (Nat.le_refl _))
                      have hVs3 : B0 ≤ ((V.drewN m).alloc (.cells #[.int .i64 y, .int .i64 z] 30)).heap.size := by have := HL3.out.size; rw [HBB.out] at this; exact this
                      go_wp2_with (at_builtin; refine wpList_append_sees rfl (.tmp 64) (.tmp 66) 23 rfl B0 30 i0 (.agg #[.int .i64 0, .int .i64 0]) 2 16 Try.underlying23 hi hz0 hz1 hz2 rfl (by decide) _ nl (smps nx) rfl HO3.out _ _ 1 _ (smps [(y, z)]) rfl HX3.out (smps_one _) (by unfold maxLen; omega) (by omega) hVs3 ?_)
                      intro v' w7 hown hgr
                      have HO7 := Lib.hid hown
                      have HB7 := Lib.hid (HL3.out.grown hgr hVs3 (fun k hk => (HO3.out.lt k hk).1))
                      clear hown hgr HX3 HO3 HL3 hVs3
                      go_wp2_with fail
                      go_roundg g2
                      case measure => omega
                      case rel => exact ⟨j + 1, nx ++ [(y, z)], 0, by omega, by go_num, rfl, by rw [List.length_append, smps_append, HNL.out]; exact HO7.out, HRE.out, HE.out, HB7.out⟩
              · have HE := Lib.hid (HLO.out.skip hw)
                have hw2 : (want != 0) = true := by simpa using hw
                have hw3 : (want == 0) = false := by simpa using hw
                go_wp2_with fail
                go_roundg g2
                case measure => omega
                case rel => exact ⟨j + 1, nx, want, by omega, by go_num, rfl, HVO.out, HRN.out, HE.out, HVL.out⟩
        have b1 : (q.kd == 1) = false := beq_eq_false_iff_ne.2 hk1
        by_cases hk2 : q.kd = 2
        · as_aux_lemma =>
          have b2 : (q.kd == 2) = true := by simp [hk2]
          clear hk1 hk2
          obtain ⟨h1, h2⟩ := nAhd_in os q.a
          have hle := nAhd_le os q.a
          have HIN := Lib.hid h1; have HAT := Lib.hid h2; have HLE := Lib.hid hle
          have HCUT := Lib.hid (fun m => cut_any os g v q.a (W.drewN m) (HV.out.drewN m) (by omega))
          have HL4 := Lib.hid HS4.out.smp_len
          generalize hK : nAhd os q.a = M at *
          have HM := Lib.hid hK
          clear h1 h2 hle hK
          obtain ⟨N, hN⟩ : ∃ N, os.length = N := ⟨_, rfl⟩
          have HN := Lib.hid hN
          rw [hN] at hosl hc4
          rw [hN]
          clear hN
          have hjN : M ≤ N := by have := HLE.out; have := HN.out; omega
          have hjc : M ≤ c4 := by omega
          have hdr := HS4.out.drop (k := M) (cap := c4) (by have := HN.out; omega) (by have := HN.out; omega)
          obtain ⟨X, hX⟩ : ∃ X, (if c4 = M then A4 else Option.map (fun x => x.add (M * 2)) A4) = X := ⟨_, rfl⟩
          have HGX := Lib.hid (show ∀ ad, X = some ad → ad.block ≠ g from by
            rw [← hX]
            intro ad h
            split at h
            · exact HG4.out ad h
            · cases hA : A4 with
              | none => rw [hA] at h; cases h
              | some a0 => rw [hA] at h; injection h with h; rw [← h, add_block]; exact HG4.out a0 hA)
          rw [hX, smps_drop] at hdr
          have HDR := Lib.hid hdr
          clear hdr
          go_wp2_with fail
          go_loopg [13] M (fun gk x13 wr2 => ∃ j m : Nat, j + gk = M ∧ x13 = .int .i64 j ∧ wr2 = W.drewN m)
          case atStart => exact ⟨0, 0, by omega, rfl, rfl⟩
          case round =>
            obtain ⟨j, m, hjg, rfl, rfl⟩ := hrel
            cases gk with
            | zero =>
              obtain rfl : j = M := by omega
              have hjN : j ≤ N := by have := HLE.out; have := HN.out; omega
              have i1 : IntKind.i64.wrap (((j : Nat) : Int) + 1) = ((j : Nat) : Int) + 1 := IntWalk.i64_in _ (by omega)
              rcases Nat.lt_or_ge j N with hlt | hge
              · obtain ⟨ad, hl, rfl, x0, x1⟩ := HS4.out.smp (show j < os.length by have := HN.out; omega)
                have hle := HAT.out hl
                generalize os[j] = p at *
                obtain ⟨y, u⟩ := p
                simp only at x0 x1 hle
                have hd : decide (y < q.a) = false := by simp; omega
                have hd2 : ¬ y < q.a := by omega
                rw [if_neg (by omega), Option.map_some] at hX
                subst hX
                have hlt2 : ((j : Nat) : Int) < (N : Nat) := by omega
                go_wp2_with fail
                go_quiet (fail)
                go_wp2_with fail
                (with_reducible refine (HCUT.out _).mono ?_); rintro e w5 ⟨v5, rfl, hs5, ho5⟩
                have HP5 := Lib.hid (show PAt w g (.slice (some (ad.add (j * 2))) (N - j) (c4 - j)) (os.drop j) w5 from (HPW.out.below (below_drewN3 (Below.refl W.heap.size W) _)).only ho5 hs5 ⟨some (ad.add (j * 2)), c4 - j, by rw [List.length_drop, HN.out], by rw [List.length_drop]; exact HDR.out.drewN _, HGX.out, by rw [List.length_drop, HN.out]; omega, by omega⟩)
                clear hs5 ho5 HCUT
                go_wp2_with fail
                go_meet
                exact ⟨os.drop j, HP5.out, HR.out.drop j⟩
              · obtain rfl : j = N := by omega
                have hlt2 : ¬ ((j : Nat) : Int) < (j : Nat) := by omega
                go_wp2_with fail
                go_quiet (fail)
                go_wp2_with fail
                (with_reducible refine (HCUT.out _).mono ?_); rintro e w5 ⟨v5, rfl, hs5, ho5⟩
                have HP5 := Lib.hid (show PAt w g (.slice X (j - j) (c4 - j)) (os.drop j) w5 from (HPW.out.below (below_drewN3 (Below.refl W.heap.size W) _)).only ho5 hs5 ⟨X, c4 - j, by rw [List.length_drop, HN.out], by rw [List.length_drop]; exact HDR.out.drewN _, HGX.out, by rw [List.length_drop, HN.out]; omega, by omega⟩)
                clear hs5 ho5 HCUT
                go_wp2_with fail
                go_meet
                exact ⟨os.drop j, by simpa using HP5.out, HR.out.drop j⟩
            | succ g2 =>
              have hjM : j < M := by omega
              have hjl : j < os.length := by have := HLE.out; omega
              have hjN : j < N := by have := HN.out; omega
              have hlt2 : ((j : Nat) : Int) < (N : Nat) := by omega
              obtain ⟨ad, hl, rfl, x0, x1⟩ := HS4.out.smp hjl
              have hle := HIN.out j hl hjM
              generalize os[j] = p at *
              obtain ⟨y, u⟩ := p
              simp only at x0 x1 hle
              have hd : decide (y < q.a) = true := by simp; omega
              have i1 : IntKind.i64.wrap (((j : Nat) : Int) + 1) = ((j : Nat) : Int) + 1 := IntWalk.i64_in _ (by omega)
              go_wp2_with fail
              go_quiet (fail)
              go_wp2_with fail
              go_roundg g2
              case measure => omega
              case rel => exact ⟨j + 1, _, by omega, by go_num, rfl⟩
        have b2 : (q.kd == 2) = false := beq_eq_false_iff_ne.2 hk2
        by_cases hk3 : q.kd = 3
        · as_aux_lemma =>
          have b3 : (q.kd == 3) = true := by simp [hk3]
          clear hk1 hk2 hk3
          obtain ⟨ht1, ht2⟩ := nWithin_in q.a (lo := -9) (hi := 500) (by omega)
          obtain ⟨hl1, hl2⟩ := nWithin_in q.b (lo := -3) (hi := 90) (by omega)
          have HW1 := Lib.hid (fun V => within_any q.a (-9) 500 V HOK.out.a (by omega) (by omega) (by omega))
          have HW2 := Lib.hid (fun V => within_any q.b (-3) 90 V HOK.out.b (by omega) (by omega) (by omega))
          generalize nWithin q.a (-9) 500 = t at *
          generalize nWithin q.b (-3) 90 = look at *
          obtain ⟨z, b, hzb⟩ : ∃ z b, atF os t look = (z, b) := ⟨_, _, rfl⟩
          have HAT := Lib.hid (fun m => at_any os g v t look (W.drewN m) (HV.out.drewN m) (by omega) (by omega) (by omega))
          have HRE := Lib.hid (fun m => ref_at A4 os.length c4 _ os t look (W.drewN m) (HS4.out.drewN m) HR.out (by omega) (by omega))
          have HZ0 := Lib.hid (show b = false → z = 0 from fun hb => by
            have h1 := atF_none (os := os) (t := t) (look := look) (by rw [hzb]; exact hb)
            rw [hzb] at h1; exact h1)
          unfold RefAt at HRE
          rw [hzb] at HAT HRE
          clear hzb
          simp only at HAT HRE
          obtain ⟨N, hN⟩ : ∃ N, os.length = N := ⟨_, rfl⟩
          rw [hN] at HRE ⊢
          have HN := Lib.hid hN
          rw [hN] at hosl hc4
          clear hN
          go_wp2_with fail
          go_quiet (((first | (with_reducible refine (HW1.out _).mono ?_) | (with_reducible refine (HW2.out _).mono ?_)); rintro e w'' ⟨h1, rfl⟩; exact ⟨h1, _, rfl⟩))
          go_wp2_with fail
          (with_reducible refine (HAT.out _).mono ?_); rintro e wq ⟨rfl, rfl⟩
          go_wp2_with fail
          (with_reducible refine (HRE.out _).mono ?_); rintro e wq ⟨z2, rfl, hz2, m2, rfl⟩
          have HP3 := Lib.hid (fun m1 => HPW.out.below (below_drewN3 (Below.refl W.heap.size W) m1))
          cases b with
          | false =>
            obtain rfl := HZ0.out rfl
            clear hz2
            go_wp2_with fail
            go_meet
            rw [← HN.out]
            exact ⟨os, HP3.out _, HR.out⟩
          | true =>
            obtain rfl := hz2 rfl
            go_wp2_with fail
            go_meet
            rw [← HN.out]
            exact ⟨os, HP3.out _, HR.out⟩
        have b3 : (q.kd == 3) = false := beq_eq_false_iff_ne.2 hk3
        by_cases hk4 : q.kd = 4
        · as_aux_lemma =>
          have b4 : (q.kd == 4) = true := by simp [hk4]
          clear hk1 hk2 hk3 hk4
          have HBT := Lib.hid (fun W2 (h : PAt w g (.slice A4 os.length c4) os W2) u (hu : SerAt os W2 g u) => between_any os g u q.a q.b W2 hu (by omega))
          rw [between_eq HR.out.pw] at HBT
          have HLB := Lib.hid (show nBeh os q.b - nAhd os q.a = (os.filter fun x => decide (q.a ≤ x.1) && decide (x.1 ≤ q.b)).length by rw [← between_eq HR.out.pw, between_len])
          rw [HLB.out] at HBT
          have HFL := Lib.hid (fun j (hj : j < os.length) => filter_snoc hj (fun x => decide (q.a ≤ x.1) && decide (x.1 ≤ q.b)))
          have HFT := Lib.hid (show (os.take os.length).filter (fun x => decide (q.a ≤ x.1) && decide (x.1 ≤ q.b)) = os.filter fun x => decide (q.a ≤ x.1) && decide (x.1 ≤ q.b) by rw [List.take_length])
          have HF0 := Lib.hid (show (os.take 0).filter (fun x => decide (q.a ≤ x.1) && decide (x.1 ≤ q.b)) = [] by simp)
          have HFE := Lib.hid (fun j => show ((os.take j).filter fun x => decide (q.a ≤ x.1) && decide (x.1 ≤ q.b)).length ≤ 200 from Nat.le_trans (List.length_filter_le _ _) (by rw [List.length_take]; omega))
          have hp : ∀ j, ∃ L, (os.take j).filter (fun x => decide (q.a ≤ x.1) && decide (x.1 ≤ q.b)) = L := fun j => ⟨_, rfl⟩
          generalize hFd : (fun j : Nat => (os.take j).filter fun x => decide (q.a ≤ x.1) && decide (x.1 ≤ q.b)) = F at *
          have HFd := Lib.hid (fun j => congrFun hFd j)
          have HFS := Lib.hid (show ∀ j (hj : j < os.length), F (j + 1) = F j ++ if (decide (q.a ≤ os[j].1) && decide (os[j].1 ≤ q.b)) = true then [os[j]] else [] from fun j hj => by
            have h := HFL.out j hj
            rw [← HFd.out (j + 1), ← HFd.out j]; exact h)
          have HFZ := Lib.hid (show F 0 = [] by rw [← HFd.out 0]; exact HF0.out)
          have HFN := Lib.hid (show F os.length = os.filter fun x => decide (q.a ≤ x.1) && decide (x.1 ≤ q.b) by rw [← HFd.out]; exact HFT.out)
          have HFM := Lib.hid (show ∀ j, (F j).length ≤ 200 from fun j => by rw [← HFd.out j]; exact HFE.out j)
          rw [← HFN.out] at HBT
          clear HFL HF0 HFT HFE HLB hFd HFd hp HFN
          have hB0 := HPW.out.bel.size
          obtain ⟨B0, hBB⟩ : ∃ B0, W.heap.size = B0 := ⟨_, rfl⟩
          have HBB := Lib.hid hBB
          have hgB : g < B0 := by rw [← hBB]; exact HV.out.1.lt
          have HSW := Lib.hid (fun W2 (h : Below B0 W W2) => (HPW.out.below (by rw [HBB.out]; exact h) : PAt w g (.slice A4 os.length c4) os W2))
          have HBW := Lib.hid (fun W2 (h : Below B0 W W2) => HBX.out.below h (by rw [← HBB.out]; exact HBX.out.lt))
          clear hBB hB0
          obtain ⟨N, hN⟩ : ∃ N, os.length = N := ⟨_, rfl⟩
          have HN := Lib.hid hN
          rw [hN] at hosl hc4 HSW HBT ⊢
          clear hN
          go_wp2_with fail
          go_loopg [20, 179] N (fun gk x20 x179 wr2 => ∃ j : Nat, j + gk = N ∧ x179 = .int .i64 j ∧ wr2.ownsRow B0 30 2 x20 (F j).length (smps (F j)) ∧ Below B0 W wr2)
          case atStart => exact ⟨0, by omega, rfl, by rw [HFZ.out]; simpa [smps] using World.ownsRow_nil W B0 30 2, Below.refl _ _⟩
          case round =>
            obtain ⟨j, hjg, rfl, hown, hbl⟩ := hrel
            have HO := Lib.hid hown; have HBL := Lib.hid hbl
            clear hown hbl
            have HPJ := Lib.hid (HSW.out _ HBL.out); have HBJ := Lib.hid (HBW.out _ HBL.out)
            clear c0 c1 c2 c3
            cases gk with
            | zero =>
              obtain rfl : j = N := by omega
              obtain ⟨u, hu⟩ := HPJ.out.ser
              have HC := Lib.hid (HBT.out _ HPJ.out u hu)
              obtain ⟨c0, c1, c2, c3⟩ := box4 HBJ.out
              obtain ⟨A20, c20, rfl, hc20, hd20⟩ := own_slice HO.out
              have hlen := HFM.out j
              have hjj : ¬ ((j : Nat) : Int) < (j : Nat) := by omega
              clear hu
              go_wp2_with fail
              (with_reducible refine HC.out.mono ?_); rintro e w5 ⟨A5, c5, rfl, hown5, hb5, _, _⟩
              have HB5 := Lib.hid (HBL.out.trans (hb5.mono (by have := HBL.out.size; rw [HBB.out] at this; exact this)))
              have HO5 := Lib.hid (own_below HO.out hb5 (Nat.le_refl _))
              have HSM := Lib.hid (same_smp A5 A20 (F j).length c5 (F j).length c20 _ _ (F j) (F j) w5 (Sees.of_own hown5) (Sees.of_own HO5.out) (by omega) (by omega))
              clear hown5 hb5 HC
              generalize (F j).length = fl at *
              go_wp2_with fail
              (with_reducible refine HSM.out.mono ?_); rintro e w6 ⟨rfl, m, rfl⟩
              have HP6 := Lib.hid (HSW.out _ (below_drewN3 HB5.out m))
              go_wp2_with fail
              go_meet
              rw [← HN.out]
              exact ⟨os, by rw [HN.out]; exact HP6.out, HR.out⟩
            | succ g2 =>
              have hjl : j < os.length := by have := HN.out; omega
              have hjN : j < N := by omega
              have hjj : ((j : Nat) : Int) < (N : Nat) := by omega
              obtain ⟨hoN, hsN, _⟩ := HPJ.out.cells
              obtain ⟨ad, hl, rfl, x0, x1⟩ := hsN.smp hjN
              have had : (ad.add (j * 2)).block < wr.heap.size := World.block_lt_of_cell? wr _ x0
              have HFJ := Lib.hid (HFS.out j hjl)
              have hlen := HFM.out j
              generalize os[j] = p at *
              obtain ⟨y, u⟩ := p
              simp only at x0 x1 HFJ
              obtain ⟨c0, c1, c2, c3⟩ := box4 (HBJ.out.below (HBJ.out.lt |> fun _ => (Below.refl _ _).alloc (Nat.le_refl _) (.cells #[.int .i64 y, .int .i64 u] 30)) HBJ.out.lt)
              have i1 : IntKind.i64.wrap (((j : Nat) : Int) + 1) = ((j : Nat) : Int) + 1 := IntWalk.i64_in _ (by omega)
              have HBL2 := Lib.hid (HBL.out.alloc (by have := HBL.out.size; rw [HBB.out] at this; exact this) (.cells #[.int .i64 y, .int .i64 u] 30))
              have HO2 := Lib.hid (own_below HO.out ((Below.refl wr.heap.size wr).alloc (Nat.le_refl _) (.cells #[.int .i64 y, .int .i64 u] 30)) (Nat.le_refl _))
              clear hoN hsN
              by_cases ha : q.a ≤ y
              · by_cases hb : y ≤ q.b
                · rw [if_pos (by simp [ha, hb])] at HFJ
                  have HL2 := Lib.hid (HBL2.out.alloc (by have := HBL2.out.size; rw [HBB.out] at this; exact this) (.cells #[.int .i64 y, .int .i64 u] 30))
                  have HO3 := Lib.hid (own_below HO2.out ((Below.refl _ _).alloc (Nat.le_refl _) (.cells #[.int .i64 y, .int .i64 u] 30)) (Nat.le_refl _))
                  have hx3 := lit_smps (w := wr.alloc (.cells #[.int .i64 y, .int .i64 u] 30)) (t := 30) [(y, u)]
                  rw [World.size_alloc wr] at hx3
                  have HX3 := Lib.hid hx3
                  clear hx3
                  generalize hfl : (F j).length = fl at *
                  have HFL := Lib.hid hfl
                  clear hfl
                  go_wp2_with (at_builtin; refine wpList_append_sees rfl (.tmp 195) (.tmp 197) 23 rfl B0 30 i0 (.agg #[.int .i64 0, .int .i64 0]) 2 16 Try.underlying23 hi hz0 hz1 hz2 rfl (by decide) _ fl (smps (F j)) rfl HO3.out _ _ 1 _ (smps [(y, u)]) rfl HX3.out (smps_one _) (by unfold maxLen; omega) (by omega) (by have := HL2.out.size; rw [HBB.out] at this; exact this) ?_)
                  intro v' w7 hown hgr
                  have HO7 := Lib.hid hown
                  have HB7 := Lib.hid (HL2.out.grown hgr (by have := HL2.out.size; rw [HBB.out] at this; exact this) (fun k hk => (HO3.out.lt k hk).1))
                  clear hown hgr HX3 HO3 HL2
                  go_wp2_with fail
                  go_roundg g2
                  case measure => omega
                  case rel => exact ⟨j + 1, by omega, by go_num, by rw [HFJ.out, List.length_append, smps_append, HFL.out]; exact HO7.out, HB7.out⟩
                · rw [if_neg (by simp [hb]), List.append_nil] at HFJ
                  go_wp2_with fail
                  go_roundg g2
                  case measure => omega
                  case rel => exact ⟨j + 1, by omega, by go_num, by rw [HFJ.out]; exact HO2.out, HBL2.out⟩
              · rw [if_neg (by simp [ha]), List.append_nil] at HFJ
                go_wp2_with fail
                go_roundg g2
                case measure => omega
                case rel => exact ⟨j + 1, by omega, by go_num, by rw [HFJ.out]; exact HO2.out, HBL2.out⟩
        have b4 : (q.kd == 4) = false := beq_eq_false_iff_ne.2 hk4
        go_wp2_with fail
        go_meet
        exact ⟨os, HPW.out, HR.out⟩
      case rest =>
        obtain ⟨os2, hp2, hr2⟩ := hcut
        have HP2 := Lib.hid hp2; have HR2 := Lib.hid hr2
        clear hp2 hr2 HPW HR HBX HOK HGB c0 c1 c2 c3 HQ
        obtain ⟨A4, c4, rfl, _⟩ := HP2.out.slc
        obtain ⟨v, hv⟩ := HP2.out.ser
        have HV := Lib.hid hv
        clear hv
        have hosl := HR2.out.few
        have HALL := Lib.hid (show ∀ W, PAt w g (.slice A4 os2.length c4) os2 W → Calls Try.prog 14 #[.pointer (some ⟨g, 0, none⟩)] W fun e w' => ∃ v, e = .returned v ∧ Below W.heap.size W w' ∧ Slc w' 2 v os2.length (smps os2) from fun W h => by
          obtain ⟨u, hu⟩ := h.ser
          refine (all_any os2 g u W hu (by omega)).mono fun e w' hh => ?_
          obtain ⟨A, c, h1, h2, h3, _⟩ := hh
          exact ⟨_, h1, h3, Slc.of_own h2⟩)
        have HSAM := Lib.hid (show ∀ W A c, PAt w g (.slice A4 os2.length c4) os2 W → Slc W 2 (.slice A os2.length c) os2.length (smps os2) → Calls Try.prog 11 #[.slice A os2.length c, .slice A4 os2.length c4] W fun e w' => e = .returned (.bool true) ∧ Below W.heap.size W w' from fun W A c h h2 => by
          obtain ⟨_, h3, _⟩ := h.cells
          refine (same_smp A A4 os2.length c os2.length c4 _ _ os2 os2 W h2.sees h3 (by omega) (by omega)).mono ?_
          rintro e w' ⟨rfl, m, rfl⟩
          exact ⟨by simp, below_drewN3 (Below.refl _ _) m⟩)
        have i5 : IntKind.i64.wrap (((i : Nat) : Int) + 1) = ((i : Nat) : Int) + 1 := IntWalk.i64_in _ (by omega)
        rcases Nat.eq_zero_or_pos os2.length with h0 | h0
        · have hnil : os2 = [] := List.eq_nil_of_length_eq_zero h0
          subst hnil
          clear h0
          simp only [List.length_nil] at *
          go_wp2_with fail
          (with_reducible refine (last_none g v _ HV.out).mono ?_); rintro e w1 ⟨rfl, hb1⟩
          have HP3 := Lib.hid ((HP2.out.below hb1).below ((Below.refl _ _).alloc (Nat.le_refl _) (.cells #[.int .i64 0, .int .i64 0] 30)))
          have HK3 := Lib.hid (Blk.mk (heap_alloc_new w1 (.cells #[.int .i64 0, .int .i64 0] 30)) : Blk _ _ 30 [.int .i64 0, .int .i64 0])
          clear hb1 HP2 HV
          go_upto_region 55 with fail
          obtain ⟨W3, hW3⟩ : ∃ W3, w1.alloc (.cells #[.int .i64 0, .int .i64 0] 30) = W3 := ⟨_, rfl⟩
          rw [hW3] at HP3 HK3 ⊢
          clear hW3
          generalize w1.heap.size = B23 at *
          go_cut [235] (fun x235 wx => x235 = .bool false ∧ PAt w g (.slice A4 0 c4) [] wx)
          case first =>
            refine wp_region_facts (R := fun a b => Below a.heap.size a b) (G := (fun W => PAt w g (.slice A4 0 c4) [] W ∧ Blk W B23 30 [.int .i64 0, .int .i64 0])) (V := fun i' u' W => match i' with | 0 => Slc W 2 u' 0 (smps []) | 1 => u' = .slice A4 0 c4 | 2 => u' = .bool true | 3 => u' = .bool false | 4 => u' = .bool false | 5 => u' = .bool false | 6 => u' = .slice A4 0 c4 | 7 => u' = .int .i64 0 | 8 => u' = .bool false | 9 => u' = .bool false | 10 => u' = .bool false | 11 => u' = .bool false | 12 => u' = .bool false | 13 => u' = .bool false | 14 => True | 15 => True | 16 => True | 17 => True | 18 => True | 19 => True | 20 => True | 21 => True | 22 => u' = .bool false | 23 => u' = .bool false | _ => True) (by kernel_rfl) (fun w => Below.refl _ _) (fun a b c h1 h2 => h1.trans (h2.mono h1.size)) (by kernel_rfl) (by kernel_rfl) ?hG ⟨?o0, ?o1, ?o2, ?o3, ?o4, ?o5, ?o6, ?o7, ?o8, ?o9, ?o10, ?o11, ?o12, ?o13, ?o14, ?o15, ?o16, ?o17, ?o18, ?o19, ?o20, ?o21, ?o22, ?o23, trivial⟩ ?hend
            case o0 =>
              intro a w hfr hG hd
              refine ⟨fun hw => ?_, fun hw => absurd hw (by simp [Region.wanted])⟩
              have s3 : a.tmps.getD 3 undef = .pointer (some ⟨g, 0, none⟩) := hfr.at 3 (by kernel_rfl)
              refine op_calls2 ((HALL.out w hG.now.1).mono fun e' w' hh => ?_) (by simp only [execOp, resolve, List.map_toArray, List.map_cons, List.map_nil, Act.eval, s3]; simp [go_sem, -Array.getD_eq_getD_getElem?, s3]); obtain ⟨v, h1, h2, h3⟩ := hh; exact ⟨v, h1, h2, fun W' hW' => h3.below hW'⟩
            case o1 =>
              intro a w hfr hG hd
              refine ⟨fun hw => ?_, fun hw => absurd hw (by simp [Region.wanted])⟩
              have s4 : a.tmps.getD 4 undef = .slice A4 0 c4 := hfr.at 4 (by kernel_rfl)
              refine op_yields (.slice A4 0 c4) ?_ ?_ ?_
              · simp only [execOp, resolve, List.map_toArray, List.map_cons, List.map_nil, Act.eval, s4]; simp [go_sem, -Array.getD_eq_getD_getElem?, s4]
              · exact Below.refl _ _
              · exact (fun _ _ => rfl)
            case o2 =>
              intro a w hfr hG hd
              obtain ⟨d0, d1, d2, _⟩ := hd
              refine ⟨fun hw => ?_, fun hw => absurd hw (by simp [Region.wanted])⟩
              have p212 : Hold (fun a b => Below a.heap.size a b) (fun W => Slc W 2 (a.tmps.getD 212 undef) 0 (smps [])) w := d0 rfl
              have s213 : a.tmps.getD 213 undef = .slice A4 0 c4 := (d1 rfl).now
              obtain ⟨A', c', s212, _, _⟩ := p212.now.form
              refine op_calls2 ((HSAM.out w A' c' hG.now.1 (s212 ▸ p212.now)).mono fun e' w' hh => ⟨_, hh.1, hh.2, (fun _ _ => rfl)⟩) ?_
              simp only [execOp, resolve, List.map_toArray, List.map_cons, List.map_nil, Act.eval, s213]; simp [go_sem, -Array.getD_eq_getD_getElem?, s213, s212]
            case o3 =>
              intro a w hfr hG hd
              obtain ⟨d0, _⟩ := hd
              refine ⟨fun hw => ?_, fun hw => absurd hw (by simp [Region.wanted])⟩
              have s214 : a.tmps.getD 214 undef = .bool true := (d0 rfl).now
              refine op_yields (.bool false) ?_ ?_ ?_
              · simp only [execOp, resolve, List.map_toArray, List.map_cons, List.map_nil, Act.eval, s214]; simp [go_sem, -Array.getD_eq_getD_getElem?, s214]
              · exact Below.refl _ _
              · exact (fun _ _ => rfl)
            case o4 =>
              intro a w hfr hG hd
              obtain ⟨d0, d1, _⟩ := hd
              refine ⟨fun hw => ?_, fun hw => absurd hw (by simp [Region.wanted])⟩
              have s215 : a.tmps.getD 215 undef = .bool false := (d0 rfl).now
              refine op_yields (.bool false) ?_ ?_ ?_
              · simp only [execOp, resolve, List.map_toArray, List.map_cons, List.map_nil, Act.eval, s215]; simp [go_sem, -Array.getD_eq_getD_getElem?, s215]
              · exact Below.refl _ _
              · exact (fun _ _ => rfl)
            case o5 =>
              intro a w hfr hG hd
              obtain ⟨d0, _⟩ := hd
              have sg : a.tmps.getD 216 undef = .bool false := (d0 rfl).now
              refine ⟨fun hw => ?_, fun hw => by rw [wanted_of rfl (yielded_of rfl sg)] at hw; exact absurd hw (by decide)⟩
              have s24 : a.tmps.getD 24 undef = .bool false := hfr.at 24 (by kernel_rfl)
              refine op_yields (.bool false) ?_ ?_ ?_
              · simp only [execOp, resolve, List.map_toArray, List.map_cons, List.map_nil, Act.eval, s24]; simp [go_sem, -Array.getD_eq_getD_getElem?, s24]
              · exact Below.refl _ _
              · exact (fun _ _ => rfl)
            case o6 =>
              intro a w hfr hG hd
              obtain ⟨d0, _⟩ := hd
              have sg : a.tmps.getD 216 undef = .bool false := (d0 rfl).now
              refine ⟨fun hw => ?_, fun hw => by rw [wanted_of rfl (yielded_of rfl sg)] at hw; exact absurd hw (by decide)⟩
              have s4 : a.tmps.getD 4 undef = .slice A4 0 c4 := hfr.at 4 (by kernel_rfl)
              refine op_yields (.slice A4 0 c4) ?_ ?_ ?_
              · simp only [execOp, resolve, List.map_toArray, List.map_cons, List.map_nil, Act.eval, s4]; simp [go_sem, -Array.getD_eq_getD_getElem?, s4]
              · exact Below.refl _ _
              · exact (fun _ _ => rfl)
            case o7 =>
              intro a w hfr hG hd
              obtain ⟨d0, d1, _⟩ := hd
              have sg : a.tmps.getD 216 undef = .bool false := (d1 rfl).now
              refine ⟨fun hw => ?_, fun hw => by rw [wanted_of rfl (yielded_of rfl sg)] at hw; exact absurd hw (by decide)⟩
              have s218 : a.tmps.getD 218 undef = .slice A4 0 c4 := (d0 rfl).now
              refine op_yields (.int .i64 0) ?_ ?_ ?_
              · simp only [execOp, resolve, List.map_toArray, List.map_cons, List.map_nil, Act.eval, s218]; simp [go_sem, -Array.getD_eq_getD_getElem?, s218]
              · exact Below.refl _ _
              · exact (fun _ _ => rfl)
            case o8 =>
              intro a w hfr hG hd
              obtain ⟨d0, d1, _⟩ := hd
              have sg : a.tmps.getD 216 undef = .bool false := (d1 rfl).now
              refine ⟨fun hw => ?_, fun hw => by rw [wanted_of rfl (yielded_of rfl sg)] at hw; exact absurd hw (by decide)⟩
              have s219 : a.tmps.getD 219 undef = .int .i64 0 := (d0 rfl).now
              refine op_yields (.bool false) ?_ ?_ ?_
              · simp only [execOp, resolve, List.map_toArray, List.map_cons, List.map_nil, Act.eval, s219]; simp [go_sem, -Array.getD_eq_getD_getElem?, s219]
              · exact Below.refl _ _
              · exact (fun _ _ => rfl)
            case o9 =>
              intro a w hfr hG hd
              obtain ⟨d0, d1, d2, _⟩ := hd
              have sg : a.tmps.getD 216 undef = .bool false := (d2 rfl).now
              refine ⟨fun hw => ?_, fun hw => by rw [wanted_of rfl (yielded_of rfl sg)] at hw; exact absurd hw (by decide)⟩
              have s217 : a.tmps.getD 217 undef = .bool false := (d0 rfl).now
              have s220 : a.tmps.getD 220 undef = .bool false := (d1 rfl).now
              refine op_yields (.bool false) ?_ ?_ ?_
              · simp only [execOp, resolve, List.map_toArray, List.map_cons, List.map_nil, Act.eval, s217, s220]; simp [go_sem, -Array.getD_eq_getD_getElem?, s217, s220]
              · exact Below.refl _ _
              · exact (fun _ _ => rfl)
            case o10 =>
              intro a w hfr hG hd
              obtain ⟨d0, d1, _⟩ := hd
              refine ⟨fun hw => ?_, fun hw => absurd hw (by simp [Region.wanted])⟩
              have s216 : a.tmps.getD 216 undef = .bool false := (d0 rfl).now
              have s221 : a.tmps.getD 221 undef = .bool false := (d1 rfl).now
              refine op_yields (.bool false) ?_ ?_ ?_
              · simp only [execOp, resolve, List.map_toArray, List.map_cons, List.map_nil, Act.eval, s216, s221]; simp [go_sem, -Array.getD_eq_getD_getElem?, s216, s221]
              · exact Below.refl _ _
              · exact (fun _ _ => rfl)
            case o11 =>
              intro a w hfr hG hd
              obtain ⟨d0, d1, _⟩ := hd
              refine ⟨fun hw => ?_, fun hw => absurd hw (by simp [Region.wanted])⟩
              have s222 : a.tmps.getD 222 undef = .bool false := (d0 rfl).now
              refine op_yields (.bool false) ?_ ?_ ?_
              · simp only [execOp, resolve, List.map_toArray, List.map_cons, List.map_nil, Act.eval, s222]; simp [go_sem, -Array.getD_eq_getD_getElem?, s222]
              · exact Below.refl _ _
              · exact (fun _ _ => rfl)
            case o12 =>
              intro a w hfr hG hd
              obtain ⟨d0, _⟩ := hd
              have sg : a.tmps.getD 223 undef = .bool false := (d0 rfl).now
              refine ⟨fun hw => ?_, fun hw => by rw [wanted_of rfl (yielded_of rfl sg)] at hw; exact absurd hw (by decide)⟩
              have s24 : a.tmps.getD 24 undef = .bool false := hfr.at 24 (by kernel_rfl)
              refine op_yields (.bool false) ?_ ?_ ?_
              · simp only [execOp, resolve, List.map_toArray, List.map_cons, List.map_nil, Act.eval, s24]; simp [go_sem, -Array.getD_eq_getD_getElem?, s24]
              · exact Below.refl _ _
              · exact (fun _ _ => rfl)
            case o13 =>
              intro a w hfr hG hd
              obtain ⟨d0, d1, d2, _⟩ := hd
              have sg : a.tmps.getD 223 undef = .bool false := (d1 rfl).now
              refine ⟨fun hw => ?_, fun hw => by rw [wanted_of rfl (yielded_of rfl sg)] at hw; exact absurd hw (by decide)⟩
              have s224 : a.tmps.getD 224 undef = .bool false := (d0 rfl).now
              refine op_yields (.bool false) ?_ ?_ ?_
              · simp only [execOp, resolve, List.map_toArray, List.map_cons, List.map_nil, Act.eval, s224]; simp [go_sem, -Array.getD_eq_getD_getElem?, s224]
              · exact Below.refl _ _
              · exact (fun _ _ => rfl)
            case o14 =>
              intro a w hfr hG hd
              obtain ⟨d0, _⟩ := hd
              have sg : a.tmps.getD 225 undef = .bool false := (d0 rfl).now
              refine ⟨fun hw => ?_, fun hw => fun _ _ => trivial⟩
              rw [wanted_of rfl (yielded_of rfl sg)] at hw; exact absurd hw (by decide)
            case o15 =>
              intro a w hfr hG hd
              obtain ⟨d0, _⟩ := hd
              have sg : a.tmps.getD 225 undef = .bool false := (d0 rfl).now
              refine ⟨fun hw => ?_, fun hw => fun _ _ => trivial⟩
              rw [wanted_of rfl (yielded_of rfl sg)] at hw; exact absurd hw (by decide)
            case o16 =>
              intro a w hfr hG hd
              obtain ⟨d0, _⟩ := hd
              have sg : a.tmps.getD 225 undef = .bool false := (d0 rfl).now
              refine ⟨fun hw => ?_, fun hw => fun _ _ => trivial⟩
              rw [wanted_of rfl (yielded_of rfl sg)] at hw; exact absurd hw (by decide)
            case o17 =>
              intro a w hfr hG hd
              obtain ⟨d0, d1, _⟩ := hd
              have sg : a.tmps.getD 225 undef = .bool false := (d1 rfl).now
              refine ⟨fun hw => ?_, fun hw => fun _ _ => trivial⟩
              rw [wanted_of rfl (yielded_of rfl sg)] at hw; exact absurd hw (by decide)
            case o18 =>
              intro a w hfr hG hd
              obtain ⟨d0, d1, _⟩ := hd
              have sg : a.tmps.getD 225 undef = .bool false := (d1 rfl).now
              refine ⟨fun hw => ?_, fun hw => fun _ _ => trivial⟩
              rw [wanted_of rfl (yielded_of rfl sg)] at hw; exact absurd hw (by decide)
            case o19 =>
              intro a w hfr hG hd
              obtain ⟨d0, d1, d2, _⟩ := hd
              have sg : a.tmps.getD 225 undef = .bool false := (d2 rfl).now
              refine ⟨fun hw => ?_, fun hw => fun _ _ => trivial⟩
              rw [wanted_of rfl (yielded_of rfl sg)] at hw; exact absurd hw (by decide)
            case o20 =>
              intro a w hfr hG hd
              obtain ⟨d0, d1, _⟩ := hd
              have sg : a.tmps.getD 225 undef = .bool false := (d1 rfl).now
              refine ⟨fun hw => ?_, fun hw => fun _ _ => trivial⟩
              rw [wanted_of rfl (yielded_of rfl sg)] at hw; exact absurd hw (by decide)
            case o21 =>
              intro a w hfr hG hd
              obtain ⟨d0, d1, d2, _⟩ := hd
              have sg : a.tmps.getD 225 undef = .bool false := (d2 rfl).now
              refine ⟨fun hw => ?_, fun hw => fun _ _ => trivial⟩
              rw [wanted_of rfl (yielded_of rfl sg)] at hw; exact absurd hw (by decide)
            case o22 =>
              intro a w hfr hG hd
              obtain ⟨d0, d1, d2, _⟩ := hd
              have sg : a.tmps.getD 223 undef = .bool false := (d2 rfl).now
              refine ⟨fun hw => ?_, fun hw => by rw [wanted_of rfl (yielded_of rfl sg)] at hw; exact absurd hw (by decide)⟩
              have s225 : a.tmps.getD 225 undef = .bool false := (d0 rfl).now
              refine op_yields (.bool false) ?_ ?_ ?_
              · simp only [execOp, resolve, List.map_toArray, List.map_cons, List.map_nil, Act.eval, s225]; simp [go_sem, -Array.getD_eq_getD_getElem?, s225]
              · exact Below.refl _ _
              · exact (fun _ _ => rfl)
            case o23 =>
              intro a w hfr hG hd
              obtain ⟨d0, d1, _⟩ := hd
              refine ⟨fun hw => ?_, fun hw => absurd hw (by simp [Region.wanted])⟩
              have s223 : a.tmps.getD 223 undef = .bool false := (d0 rfl).now
              have s234 : a.tmps.getD 234 undef = .bool false := (d1 rfl).now
              refine op_yields (.bool false) ?_ ?_ ?_
              · simp only [execOp, resolve, List.map_toArray, List.map_cons, List.map_nil, Act.eval, s223, s234]; simp [go_sem, -Array.getD_eq_getD_getElem?, s223, s234]
              · exact Below.refl _ _
              · exact (fun _ _ => rfl)
            case hG => exact fun w' hb => ⟨(HP3.out.below (Below.refl _ _).drew).below hb, HK3.out.drewP.below hb HK3.out.lt⟩
            case hend =>
              intro vs w' hG hv
              obtain ⟨_, _, _, _, _, _, _, _, _, _, _, _, _, _, _, _, _, _, _, _, _, _, _, h23, _⟩ := hv
              have e23 : vs 23 = .bool false := h23.now
              have HU := Lib.hid hG.now
              clear hG h23
              simp only [putAll, Act.put, e23]
              go_wp2_with fail
              go_meet
              exact ⟨rfl, HU.out.1⟩
          case rest => as_aux_lemma =>
            obtain ⟨rfl, hp⟩ := hcut
            have HP4 := Lib.hid hp
            clear hp HP3 HK3 HALL HSAM
            go_wp2_with fail
            go_roundg gout
            case measure => omega
            case rel => exact ⟨i + 1, [], by omega, by go_num, HP4.out, Ris.nil⟩
        · obtain ⟨N, hN⟩ : ∃ N, os2.length = N := ⟨_, rfl⟩
          rw [hN] at HALL HSAM h0 hosl
          obtain ⟨j, hj⟩ : ∃ j, N = j + 1 := ⟨N - 1, by omega⟩
          have hjN : j < N := by omega
          have hjN2 : ((j : Nat) : Int) < (N : Nat) := by omega
          have hN0 : (0 : Int) < (N : Nat) := by omega
          have hN9 : 0 < N := by omega
          have i1 : IntKind.i64.wrap (((N : Nat) : Int) - 1) = ((j : Nat) : Int) := by rw [show ((N : Nat) : Int) - 1 = ((j : Nat) : Int) by omega]; exact IntWalk.i64_in _ (by omega)
          obtain ⟨y, z, hyz⟩ : ∃ y z, os2[j]? = some (y, z) := ⟨_, _, List.getElem?_eq_getElem (by omega)⟩
          have HLS := Lib.hid (fun W u (h : SerAt os2 W g u) => last_some os2 j g u W h (by omega) (by omega) y z hyz)
          have HC4 := Lib.hid (show ∃ ad4, A4 = some ad4 ∧ ∀ W, PAt w g (.slice A4 N c4) os2 W → W.cell? (ad4.add (j * 2)) = some (.int .i64 y) ∧ W.cell? ⟨(ad4.add (j * 2)).block, (ad4.add (j * 2)).off + 1, none⟩ = some (.int .i64 z) from by
            rw [hN] at HP2
            obtain ⟨_, h3, _⟩ := HP2.out.cells
            obtain ⟨ad4, _, e4, _, _⟩ := h3.smp hjN
            refine ⟨ad4, e4, fun W h => ?_⟩
            obtain ⟨_, h3, _⟩ := h.cells
            obtain ⟨ad5, hl5, e5, x0, x1⟩ := h3.smp hjN
            rw [e4] at e5
            injection e5 with e5
            subst e5
            rw [List.getElem?_eq_getElem hl5] at hyz
            injection hyz with hyz
            rw [hyz] at x0 x1
            exact ⟨x0, x1⟩)
          rw [hN] at HP2
          have HN := Lib.hid hN
          clear hyz hN hj h0
          obtain ⟨ad4, rfl, hc4⟩ := HC4.out
          have HCC := Lib.hid hc4
          clear hc4 HC4
          rw [HN.out]
          go_wp2_with fail
          (with_reducible refine (HLS.out _ v HV.out).mono ?_); rintro e w1 ⟨rfl, hb1⟩
          have HP3 := Lib.hid ((HP2.out.below hb1).below ((Below.refl _ _).alloc (Nat.le_refl _) (.cells #[.int .i64 y, .int .i64 z] 30)))
          have HK3 := Lib.hid (Blk.mk (heap_alloc_new w1 (.cells #[.int .i64 y, .int .i64 z] 30)) : Blk _ _ 30 [.int .i64 y, .int .i64 z])
          clear hb1 HP2 HV HLS
          go_upto_region 55 with fail
          obtain ⟨W3, hW3⟩ : ∃ W3, w1.alloc (.cells #[.int .i64 y, .int .i64 z] 30) = W3 := ⟨_, rfl⟩
          rw [hW3] at HP3 HK3 ⊢
          clear hW3
          generalize w1.heap.size = B23 at *
          go_cut [235] (fun x235 wx => x235 = .bool false ∧ PAt w g (.slice (some ad4) N c4) os2 wx)
          case first =>
            refine wp_region_facts (R := fun a b => Below a.heap.size a b) (G := (fun W => PAt w g (.slice (some ad4) N c4) os2 W ∧ Blk W B23 30 [.int .i64 y, .int .i64 z])) (V := fun i' u' W => match i' with | 0 => Slc W 2 u' N (smps os2) | 1 => u' = .slice (some ad4) N c4 | 2 => u' = .bool true | 3 => u' = .bool false | 4 => u' = .bool false | 5 => u' = .bool true | 6 => u' = .slice (some ad4) N c4 | 7 => u' = .int .i64 N | 8 => u' = .bool true | 9 => u' = .bool false | 10 => u' = .bool false | 11 => u' = .bool false | 12 => u' = .bool true | 13 => u' = .bool true | 14 => u' = .agg #[.int .i64 y, .int .i64 z] | 15 => u' = .slice (some ad4) N c4 | 16 => u' = .slice (some ad4) N c4 | 17 => u' = .int .i64 N | 18 => u' = .int .i64 j | 19 => u' = .pointer (some (ad4.add (j * 2))) | 20 => u' = .agg #[.int .i64 y, .int .i64 z] | 21 => u' = .bool false | 22 => u' = .bool false | 23 => u' = .bool false | _ => True) (by kernel_rfl) (fun w => Below.refl _ _) (fun a b c h1 h2 => h1.trans (h2.mono h1.size)) (by kernel_rfl) (by kernel_rfl) ?hG ⟨?o0, ?o1, ?o2, ?o3, ?o4, ?o5, ?o6, ?o7, ?o8, ?o9, ?o10, ?o11, ?o12, ?o13, ?o14, ?o15, ?o16, ?o17, ?o18, ?o19, ?o20, ?o21, ?o22, ?o23, trivial⟩ ?hend
            case o0 =>
              intro a w hfr hG hd
              refine ⟨fun hw => ?_, fun hw => absurd hw (by simp [Region.wanted])⟩
              have s3 : a.tmps.getD 3 undef = .pointer (some ⟨g, 0, none⟩) := hfr.at 3 (by kernel_rfl)
              refine op_calls2 ((HALL.out w hG.now.1).mono fun e' w' hh => ?_) (by simp only [execOp, resolve, List.map_toArray, List.map_cons, List.map_nil, Act.eval, s3]; simp [go_sem, -Array.getD_eq_getD_getElem?, s3]); obtain ⟨v, h1, h2, h3⟩ := hh; exact ⟨v, h1, h2, fun W' hW' => h3.below hW'⟩
            case o1 =>
              intro a w hfr hG hd
              refine ⟨fun hw => ?_, fun hw => absurd hw (by simp [Region.wanted])⟩
              have s4 : a.tmps.getD 4 undef = .slice (some ad4) N c4 := hfr.at 4 (by kernel_rfl)
              refine op_yields (.slice (some ad4) N c4) ?_ ?_ ?_
              · simp only [execOp, resolve, List.map_toArray, List.map_cons, List.map_nil, Act.eval, s4]; simp [go_sem, -Array.getD_eq_getD_getElem?, s4]
              · exact Below.refl _ _
              · exact (fun _ _ => rfl)
            case o2 =>
              intro a w hfr hG hd
              obtain ⟨d0, d1, d2, _⟩ := hd
              refine ⟨fun hw => ?_, fun hw => absurd hw (by simp [Region.wanted])⟩
              have p212 : Hold (fun a b => Below a.heap.size a b) (fun W => Slc W 2 (a.tmps.getD 212 undef) N (smps os2)) w := d0 rfl
              have s213 : a.tmps.getD 213 undef = .slice (some ad4) N c4 := (d1 rfl).now
              obtain ⟨A', c', s212, _, _⟩ := p212.now.form
              refine op_calls2 ((HSAM.out w A' c' hG.now.1 (s212 ▸ p212.now)).mono fun e' w' hh => ⟨_, hh.1, hh.2, (fun _ _ => rfl)⟩) ?_
              simp only [execOp, resolve, List.map_toArray, List.map_cons, List.map_nil, Act.eval, s213]; simp [go_sem, -Array.getD_eq_getD_getElem?, s213, s212]
            case o3 =>
              intro a w hfr hG hd
              obtain ⟨d0, _⟩ := hd
              refine ⟨fun hw => ?_, fun hw => absurd hw (by simp [Region.wanted])⟩
              have s214 : a.tmps.getD 214 undef = .bool true := (d0 rfl).now
              refine op_yields (.bool false) ?_ ?_ ?_
              · simp only [execOp, resolve, List.map_toArray, List.map_cons, List.map_nil, Act.eval, s214]; simp [go_sem, -Array.getD_eq_getD_getElem?, s214]
              · exact Below.refl _ _
              · exact (fun _ _ => rfl)
            case o4 =>
              intro a w hfr hG hd
              obtain ⟨d0, d1, _⟩ := hd
              refine ⟨fun hw => ?_, fun hw => absurd hw (by simp [Region.wanted])⟩
              have s215 : a.tmps.getD 215 undef = .bool false := (d0 rfl).now
              refine op_yields (.bool false) ?_ ?_ ?_
              · simp only [execOp, resolve, List.map_toArray, List.map_cons, List.map_nil, Act.eval, s215]; simp [go_sem, -Array.getD_eq_getD_getElem?, s215]
              · exact Below.refl _ _
              · exact (fun _ _ => rfl)
            case o5 =>
              intro a w hfr hG hd
              obtain ⟨d0, _⟩ := hd
              have sg : a.tmps.getD 216 undef = .bool false := (d0 rfl).now
              refine ⟨fun hw => ?_, fun hw => by rw [wanted_of rfl (yielded_of rfl sg)] at hw; exact absurd hw (by decide)⟩
              have s24 : a.tmps.getD 24 undef = .bool true := hfr.at 24 (by kernel_rfl)
              refine op_yields (.bool true) ?_ ?_ ?_
              · simp only [execOp, resolve, List.map_toArray, List.map_cons, List.map_nil, Act.eval, s24]; simp [go_sem, -Array.getD_eq_getD_getElem?, s24]
              · exact Below.refl _ _
              · exact (fun _ _ => rfl)
            case o6 =>
              intro a w hfr hG hd
              obtain ⟨d0, _⟩ := hd
              have sg : a.tmps.getD 216 undef = .bool false := (d0 rfl).now
              refine ⟨fun hw => ?_, fun hw => by rw [wanted_of rfl (yielded_of rfl sg)] at hw; exact absurd hw (by decide)⟩
              have s4 : a.tmps.getD 4 undef = .slice (some ad4) N c4 := hfr.at 4 (by kernel_rfl)
              refine op_yields (.slice (some ad4) N c4) ?_ ?_ ?_
              · simp only [execOp, resolve, List.map_toArray, List.map_cons, List.map_nil, Act.eval, s4]; simp [go_sem, -Array.getD_eq_getD_getElem?, s4]
              · exact Below.refl _ _
              · exact (fun _ _ => rfl)
            case o7 =>
              intro a w hfr hG hd
              obtain ⟨d0, d1, _⟩ := hd
              have sg : a.tmps.getD 216 undef = .bool false := (d1 rfl).now
              refine ⟨fun hw => ?_, fun hw => by rw [wanted_of rfl (yielded_of rfl sg)] at hw; exact absurd hw (by decide)⟩
              have s218 : a.tmps.getD 218 undef = .slice (some ad4) N c4 := (d0 rfl).now
              refine op_yields (.int .i64 N) ?_ ?_ ?_
              · simp only [execOp, resolve, List.map_toArray, List.map_cons, List.map_nil, Act.eval, s218]; simp [go_sem, -Array.getD_eq_getD_getElem?, s218]
              · exact Below.refl _ _
              · exact (fun _ _ => rfl)
            case o8 =>
              intro a w hfr hG hd
              obtain ⟨d0, d1, _⟩ := hd
              have sg : a.tmps.getD 216 undef = .bool false := (d1 rfl).now
              refine ⟨fun hw => ?_, fun hw => by rw [wanted_of rfl (yielded_of rfl sg)] at hw; exact absurd hw (by decide)⟩
              have s219 : a.tmps.getD 219 undef = .int .i64 N := (d0 rfl).now
              refine op_yields (.bool true) ?_ ?_ ?_
              · simp only [execOp, resolve, List.map_toArray, List.map_cons, List.map_nil, Act.eval, s219]; simp [go_sem, -Array.getD_eq_getD_getElem?, s219, hN0, hN9]
              · exact Below.refl _ _
              · exact (fun _ _ => rfl)
            case o9 =>
              intro a w hfr hG hd
              obtain ⟨d0, d1, d2, _⟩ := hd
              have sg : a.tmps.getD 216 undef = .bool false := (d2 rfl).now
              refine ⟨fun hw => ?_, fun hw => by rw [wanted_of rfl (yielded_of rfl sg)] at hw; exact absurd hw (by decide)⟩
              have s217 : a.tmps.getD 217 undef = .bool true := (d0 rfl).now
              have s220 : a.tmps.getD 220 undef = .bool true := (d1 rfl).now
              refine op_yields (.bool false) ?_ ?_ ?_
              · simp only [execOp, resolve, List.map_toArray, List.map_cons, List.map_nil, Act.eval, s217, s220]; simp [go_sem, -Array.getD_eq_getD_getElem?, s217, s220]
              · exact Below.refl _ _
              · exact (fun _ _ => rfl)
            case o10 =>
              intro a w hfr hG hd
              obtain ⟨d0, d1, _⟩ := hd
              refine ⟨fun hw => ?_, fun hw => absurd hw (by simp [Region.wanted])⟩
              have s216 : a.tmps.getD 216 undef = .bool false := (d0 rfl).now
              have s221 : a.tmps.getD 221 undef = .bool false := (d1 rfl).now
              refine op_yields (.bool false) ?_ ?_ ?_
              · simp only [execOp, resolve, List.map_toArray, List.map_cons, List.map_nil, Act.eval, s216, s221]; simp [go_sem, -Array.getD_eq_getD_getElem?, s216, s221]
              · exact Below.refl _ _
              · exact (fun _ _ => rfl)
            case o11 =>
              intro a w hfr hG hd
              obtain ⟨d0, d1, _⟩ := hd
              refine ⟨fun hw => ?_, fun hw => absurd hw (by simp [Region.wanted])⟩
              have s222 : a.tmps.getD 222 undef = .bool false := (d0 rfl).now
              refine op_yields (.bool false) ?_ ?_ ?_
              · simp only [execOp, resolve, List.map_toArray, List.map_cons, List.map_nil, Act.eval, s222]; simp [go_sem, -Array.getD_eq_getD_getElem?, s222]
              · exact Below.refl _ _
              · exact (fun _ _ => rfl)
            case o12 =>
              intro a w hfr hG hd
              obtain ⟨d0, _⟩ := hd
              have sg : a.tmps.getD 223 undef = .bool false := (d0 rfl).now
              refine ⟨fun hw => ?_, fun hw => by rw [wanted_of rfl (yielded_of rfl sg)] at hw; exact absurd hw (by decide)⟩
              have s24 : a.tmps.getD 24 undef = .bool true := hfr.at 24 (by kernel_rfl)
              refine op_yields (.bool true) ?_ ?_ ?_
              · simp only [execOp, resolve, List.map_toArray, List.map_cons, List.map_nil, Act.eval, s24]; simp [go_sem, -Array.getD_eq_getD_getElem?, s24]
              · exact Below.refl _ _
              · exact (fun _ _ => rfl)
            case o13 =>
              intro a w hfr hG hd
              obtain ⟨d0, d1, d2, _⟩ := hd
              have sg : a.tmps.getD 223 undef = .bool false := (d1 rfl).now
              refine ⟨fun hw => ?_, fun hw => by rw [wanted_of rfl (yielded_of rfl sg)] at hw; exact absurd hw (by decide)⟩
              have s224 : a.tmps.getD 224 undef = .bool true := (d0 rfl).now
              refine op_yields (.bool true) ?_ ?_ ?_
              · simp only [execOp, resolve, List.map_toArray, List.map_cons, List.map_nil, Act.eval, s224]; simp [go_sem, -Array.getD_eq_getD_getElem?, s224]
              · exact Below.refl _ _
              · exact (fun _ _ => rfl)
            case o14 =>
              intro a w hfr hG hd
              obtain ⟨d0, _⟩ := hd
              have sg : a.tmps.getD 225 undef = .bool true := (d0 rfl).now
              refine ⟨fun hw => ?_, fun hw => by rw [wanted_of rfl (yielded_of rfl sg)] at hw; exact absurd hw (by decide)⟩
              have s23 : a.tmps.getD 23 undef = .pointer (some ⟨B23, 0, none⟩) := hfr.at 23 (by kernel_rfl)
              obtain ⟨e0, e1⟩ := box2 hG.now.2
              refine op_yields (.agg #[.int .i64 y, .int .i64 z]) ?_ ?_ ?_
              · simp only [execOp, resolve, List.map_toArray, List.map_cons, List.map_nil, Act.eval, s23]; simp [go_sem, -Array.getD_eq_getD_getElem?, s23, e0, e1]
              · exact Below.refl _ _
              · exact (fun _ _ => rfl)
            case o15 =>
              intro a w hfr hG hd
              obtain ⟨d0, _⟩ := hd
              have sg : a.tmps.getD 225 undef = .bool true := (d0 rfl).now
              refine ⟨fun hw => ?_, fun hw => by rw [wanted_of rfl (yielded_of rfl sg)] at hw; exact absurd hw (by decide)⟩
              have s4 : a.tmps.getD 4 undef = .slice (some ad4) N c4 := hfr.at 4 (by kernel_rfl)
              refine op_yields (.slice (some ad4) N c4) ?_ ?_ ?_
              · simp only [execOp, resolve, List.map_toArray, List.map_cons, List.map_nil, Act.eval, s4]; simp [go_sem, -Array.getD_eq_getD_getElem?, s4]
              · exact Below.refl _ _
              · exact (fun _ _ => rfl)
            case o16 =>
              intro a w hfr hG hd
              obtain ⟨d0, _⟩ := hd
              have sg : a.tmps.getD 225 undef = .bool true := (d0 rfl).now
              refine ⟨fun hw => ?_, fun hw => by rw [wanted_of rfl (yielded_of rfl sg)] at hw; exact absurd hw (by decide)⟩
              have s4 : a.tmps.getD 4 undef = .slice (some ad4) N c4 := hfr.at 4 (by kernel_rfl)
              refine op_yields (.slice (some ad4) N c4) ?_ ?_ ?_
              · simp only [execOp, resolve, List.map_toArray, List.map_cons, List.map_nil, Act.eval, s4]; simp [go_sem, -Array.getD_eq_getD_getElem?, s4]
              · exact Below.refl _ _
              · exact (fun _ _ => rfl)
            case o17 =>
              intro a w hfr hG hd
              obtain ⟨d0, d1, _⟩ := hd
              have sg : a.tmps.getD 225 undef = .bool true := (d1 rfl).now
              refine ⟨fun hw => ?_, fun hw => by rw [wanted_of rfl (yielded_of rfl sg)] at hw; exact absurd hw (by decide)⟩
              have s228 : a.tmps.getD 228 undef = .slice (some ad4) N c4 := (d0 rfl).now
              refine op_yields (.int .i64 N) ?_ ?_ ?_
              · simp only [execOp, resolve, List.map_toArray, List.map_cons, List.map_nil, Act.eval, s228]; simp [go_sem, -Array.getD_eq_getD_getElem?, s228]
              · exact Below.refl _ _
              · exact (fun _ _ => rfl)
            case o18 =>
              intro a w hfr hG hd
              obtain ⟨d0, d1, _⟩ := hd
              have sg : a.tmps.getD 225 undef = .bool true := (d1 rfl).now
              refine ⟨fun hw => ?_, fun hw => by rw [wanted_of rfl (yielded_of rfl sg)] at hw; exact absurd hw (by decide)⟩
              have s229 : a.tmps.getD 229 undef = .int .i64 N := (d0 rfl).now
              refine op_yields (.int .i64 j) ?_ ?_ ?_
              · simp only [execOp, resolve, List.map_toArray, List.map_cons, List.map_nil, Act.eval, s229]; simp [go_sem, -Array.getD_eq_getD_getElem?, s229, i1]
              · exact Below.refl _ _
              · exact (fun _ _ => rfl)
            case o19 =>
              intro a w hfr hG hd
              obtain ⟨d0, d1, d2, _⟩ := hd
              have sg : a.tmps.getD 225 undef = .bool true := (d2 rfl).now
              refine ⟨fun hw => ?_, fun hw => by rw [wanted_of rfl (yielded_of rfl sg)] at hw; exact absurd hw (by decide)⟩
              have s227 : a.tmps.getD 227 undef = .slice (some ad4) N c4 := (d0 rfl).now
              have s230 : a.tmps.getD 230 undef = .int .i64 j := (d1 rfl).now
              refine op_yields (.pointer (some (ad4.add (j * 2)))) ?_ ?_ ?_
              · simp only [execOp, resolve, List.map_toArray, List.map_cons, List.map_nil, Act.eval, s227, s230]; simp [go_sem, -Array.getD_eq_getD_getElem?, s227, s230, hjN, hjN2]
              · exact Below.refl _ _
              · exact (fun _ _ => rfl)
            case o20 =>
              intro a w hfr hG hd
              obtain ⟨d0, d1, _⟩ := hd
              have sg : a.tmps.getD 225 undef = .bool true := (d1 rfl).now
              refine ⟨fun hw => ?_, fun hw => by rw [wanted_of rfl (yielded_of rfl sg)] at hw; exact absurd hw (by decide)⟩
              have s231 : a.tmps.getD 231 undef = .pointer (some (ad4.add (j * 2))) := (d0 rfl).now
              obtain ⟨e0, e1⟩ := HCC.out w hG.now.1
              refine op_yields (.agg #[.int .i64 y, .int .i64 z]) ?_ ?_ ?_
              · simp only [execOp, resolve, List.map_toArray, List.map_cons, List.map_nil, Act.eval, s231]; simp [go_sem, -Array.getD_eq_getD_getElem?, s231, e0, e1]
              · exact Below.refl _ _
              · exact (fun _ _ => rfl)
            case o21 =>
              intro a w hfr hG hd
              obtain ⟨d0, d1, d2, _⟩ := hd
              have sg : a.tmps.getD 225 undef = .bool true := (d2 rfl).now
              refine ⟨fun hw => ?_, fun hw => by rw [wanted_of rfl (yielded_of rfl sg)] at hw; exact absurd hw (by decide)⟩
              have s226 : a.tmps.getD 226 undef = .agg #[.int .i64 y, .int .i64 z] := (d0 rfl).now
              have s232 : a.tmps.getD 232 undef = .agg #[.int .i64 y, .int .i64 z] := (d1 rfl).now
              refine op_yields (.bool false) ?_ ?_ ?_
              · simp only [execOp, resolve, List.map_toArray, List.map_cons, List.map_nil, Act.eval, s226, s232]; simp [go_sem, -Array.getD_eq_getD_getElem?, s226, s232]
              · exact Below.refl _ _
              · exact (fun _ _ => rfl)
            case o22 =>
              intro a w hfr hG hd
              obtain ⟨d0, d1, d2, _⟩ := hd
              have sg : a.tmps.getD 223 undef = .bool false := (d2 rfl).now
              refine ⟨fun hw => ?_, fun hw => by rw [wanted_of rfl (yielded_of rfl sg)] at hw; exact absurd hw (by decide)⟩
              have s225 : a.tmps.getD 225 undef = .bool true := (d0 rfl).now
              have s233 : a.tmps.getD 233 undef = .bool false := (d1 rfl).now
              refine op_yields (.bool false) ?_ ?_ ?_
              · simp only [execOp, resolve, List.map_toArray, List.map_cons, List.map_nil, Act.eval, s225, s233]; simp [go_sem, -Array.getD_eq_getD_getElem?, s225, s233]
              · exact Below.refl _ _
              · exact (fun _ _ => rfl)
            case o23 =>
              intro a w hfr hG hd
              obtain ⟨d0, d1, _⟩ := hd
              refine ⟨fun hw => ?_, fun hw => absurd hw (by simp [Region.wanted])⟩
              have s223 : a.tmps.getD 223 undef = .bool false := (d0 rfl).now
              have s234 : a.tmps.getD 234 undef = .bool false := (d1 rfl).now
              refine op_yields (.bool false) ?_ ?_ ?_
              · simp only [execOp, resolve, List.map_toArray, List.map_cons, List.map_nil, Act.eval, s223, s234]; simp [go_sem, -Array.getD_eq_getD_getElem?, s223, s234]
              · exact Below.refl _ _
              · exact (fun _ _ => rfl)
            case hG => exact fun w' hb => ⟨(HP3.out.below (Below.refl _ _).drew).below hb, HK3.out.drewP.below hb HK3.out.lt⟩
            case hend =>
              intro vs w' hG hv
              obtain ⟨_, _, _, _, _, _, _, _, _, _, _, _, _, _, _, _, _, _, _, _, _, _, _, h23, _⟩ := hv
              have e23 : vs 23 = .bool false := h23.now
              have HU := Lib.hid hG.now
              clear hG h23
              simp only [putAll, Act.put, e23]
              go_wp2_with fail
              go_meet
              exact ⟨rfl, HU.out.1⟩
          case rest => as_aux_lemma =>
            obtain ⟨rfl, hp⟩ := hcut
            have HP4 := Lib.hid hp
            clear hp HP3 HK3 HALL HSAM HCC i1
            go_wp2_with fail
            go_roundg gout
            case measure => omega
            case rel => exact ⟨i + 1, os2, by omega, by go_num, HP4.out, HR2.out⟩
end Go.Proofs.Ytlcpnlmfnllgmaa
