/- Texts, merged in one. -/
import Derived.Test.YtlmakdclebbbkaaGreatBase
import Derived.Lib.Hide
import Derived.Test.YtlmakdclebbbkaaGreatBase7
import Derived.Test.YtlmakdclebbbkaaGreatBase9
import Derived.Test.YtlmakdclebbbkaaGreatBase4
import Derived.Test.YtlmakdclebbbkaaGreatBase6
import Derived.Deep.QuietTactic
import Derived.BigQuiet
namespace Go.Proofs.YtlmakdclebbbkaaGreat
open Go.RowKit
set_option linter.unusedVariables false
theorem own_ne {w : World} {b b2 : Nat} {e e2 : TypeId} {s s2 n n2 : Nat} {v v2 : Value} {xs xs2 : List Value} (h : w.ownsRow b e s v n xs) (h2 : w.ownsRow b2 e2 s2 v2 n2 xs2) (he : e ≠ e2) : ∀ g, v.ownBlock = some g → v2.ownBlock ≠ some g := by
  intro g hg hg2
  rcases h.2 with ⟨rfl, _⟩ | ⟨g1, cap, cur, rfl, _, hh, _⟩
  · simp [Value.ownBlock] at hg
  · rcases h2.2 with ⟨rfl, _⟩ | ⟨g3, cap2, cur2, rfl, _, hh2, _⟩
    · simp [Value.ownBlock] at hg2
    · simp [Value.ownBlock] at hg hg2
      subst hg; subst hg2
      rw [hh] at hh2
      injection hh2 with hh2; injection hh2 with _ hh2
      exact he hh2
theorem own_grown {w w' : World} {base : Nat} {e : TypeId} {size n : Nat} {v : Value} {xs : List Value} {row : Option Nat} (h : w.ownsRow base e size v n xs) (hg : w.grownBy w' row) (hne : ∀ g, v.ownBlock = some g → row ≠ some g) : w'.ownsRow base e size v n xs := by
  refine ⟨h.1, ?_⟩
  rcases h.2 with h2 | ⟨g, cap, cur, rfl, hb, hh, rest⟩
  · exact .inl h2
  · refine .inr ⟨g, cap, cur, rfl, hb, ?_, rest⟩
    have : g < w.heap.size := (Array.getElem?_eq_some_iff.1 hh).1
    rw [hg.block g this (fun e => hne g (by simp [Value.ownBlock]) e.symm)]; exact hh
end Go.Proofs.YtlmakdclebbbkaaGreat

namespace Go.Proofs.YtlmakdclebbbkaaGreat
open Go.RowKit
set_option linter.unusedVariables false
def Stays (P : World → Prop) (w : World) : Prop := ∀ w', Below w.heap.size w w' → P w'
theorem Stays.now {P : World → Prop} {w : World} (h : Stays P w) : P w := h w (Below.refl _ _)
theorem Stays.below {P : World → Prop} {w w' : World} (h : Stays P w) (hb : Below w.heap.size w w') : Stays P w' := fun w2 h2 => h w2 (hb.trans (h2.mono hb.size))
def Kept (w0 : World) (Ps : List (World → Prop)) (w : World) : Prop := Below w0.heap.size w0 w ∧ ∀ P ∈ Ps, Stays P w
section
variable {w0 w w' : World} {Ps : List (World → Prop)} {P P1 P2 P3 P4 P5 P6 P7 P8 P9 : World → Prop}
theorem Kept.start (w : World) : Kept w [] w := ⟨Below.refl _ _, fun P h => absurd h List.not_mem_nil⟩
theorem Kept.bel (h : Kept w0 Ps w) : Below w0.heap.size w0 w := h.1
theorem Kept.size (h : Kept w0 Ps w) : w0.heap.size ≤ w.heap.size := h.1.size
theorem Kept.below (h : Kept w0 Ps w) (hb : Below w.heap.size w w') : Kept w0 Ps w' := ⟨h.1.trans (hb.mono h.1.size), fun P hp => (h.2 P hp).below hb⟩
theorem Kept.alloc (h : Kept w0 Ps w) (o : Obj) : Kept w0 Ps (w.alloc o) := h.below ((Below.refl _ _).alloc (Nat.le_refl _) o)
theorem Kept.drew (h : Kept w0 Ps w) : Kept w0 Ps w.drew := h.below (Below.refl _ _).drew
theorem Kept.drewN (h : Kept w0 Ps w) (n : Nat) : Kept w0 Ps (w.drewN n) := by
  induction n with
  | zero => exact h
  | succ n ih => exact ih.drew
theorem Kept.add (h : Kept w0 Ps w) (hP : Stays P w) : Kept w0 (P :: Ps) w := ⟨h.1, fun Q hq => by
  rcases List.mem_cons.1 hq with rfl | hq
  · exact hP
  · exact h.2 Q hq⟩
theorem Kept.tail (h : Kept w0 (P :: Ps) w) : Kept w0 Ps w := ⟨h.1, fun Q hq => h.2 Q (List.mem_cons_of_mem _ hq)⟩
theorem Kept.p0 (h : Kept w0 (P :: Ps) w) : P w := (h.2 P List.mem_cons_self).now
theorem Kept.p1 (h : Kept w0 (P :: P1 :: Ps) w) : P1 w := h.tail.p0
theorem Kept.p2 (h : Kept w0 (P :: P1 :: P2 :: Ps) w) : P2 w := h.tail.p1
theorem Kept.p3 (h : Kept w0 (P :: P1 :: P2 :: P3 :: Ps) w) : P3 w := h.tail.p2
theorem Kept.p4 (h : Kept w0 (P :: P1 :: P2 :: P3 :: P4 :: Ps) w) : P4 w := h.tail.p3
theorem Kept.p5 (h : Kept w0 (P :: P1 :: P2 :: P3 :: P4 :: P5 :: Ps) w) : P5 w := h.tail.p4
end
section
variable {w w' : World} {B size n g base : Nat} {A : Option Addr} {xs cs : List Value} {t : TypeId} {v : Value}
theorem Sees.stays (h : Sees w B size A n xs) (hB : B ≤ w.heap.size) : Stays (fun W => Sees W B size A n xs) w := fun _ hb => h.below (hb.mono hB)
theorem Blk.stays (h : Blk w g t cs) : Stays (fun W => Blk W g t cs) w := fun _ hb => h.below hb h.lt
def Slc (w : World) (size : Nat) (v : Value) (n : Nat) (xs : List Value) : Prop := ∃ A c, v = .slice A n c ∧ Sees w w.heap.size size A n xs ∧ n ≤ c ∧ c ≤ 9223372036854775807
theorem Slc.below (h : Slc w size v n xs) (hb : Below w.heap.size w w') : Slc w' size v n xs := by
  obtain ⟨A, c, h1, h2, h3⟩ := h
  exact ⟨A, c, h1, (h2.below hb).more hb.size, h3⟩
theorem Slc.stays (h : Slc w size v n xs) : Stays (fun W => Slc W size v n xs) w := fun _ hb => h.below hb
theorem Slc.sees {c : Nat} (h : Slc w size (.slice A n c) n xs) : Sees w w.heap.size size A n xs := by
  obtain ⟨A', c', h1, h2, h3, h4⟩ := h
  injection h1 with h1 h5 h6
  subst h1; subst h6
  exact h2
theorem Slc.form (h : Slc w size v n xs) : ∃ A c, v = .slice A n c ∧ n ≤ c ∧ c ≤ 9223372036854775807 := by
  obtain ⟨A, c, h1, h2, h3⟩ := h
  exact ⟨A, c, h1, h3⟩
theorem Slc.of_own (h : w.ownsRow base t size v n xs) : Slc w size v n xs := by
  obtain ⟨A, c, rfl, h1, h2⟩ := own_slice h
  exact ⟨A, c, rfl, Sees.of_own h, h1, h2⟩
end
end Go.Proofs.YtlmakdclebbbkaaGreat

namespace Go.Proofs.YtlmakdclebbbkaaGreat
open Go.ChangeShapes Go.WideShapes Go.ChangeAt Go.RowKit
set_option linter.unusedVariables false
set_option maxRecDepth 100000
structure SR where
  sv : Value
  set : List Lbl
  xv : Value
  ss : List (Int × Int)
abbrev txt (l : List Lbl) : ByteArray := ⟨(printL l).toArray⟩
theorem txt_list (l : List Lbl) : (txt l).toList = printL l := ba_list _
abbrev SK := List Lbl × List (Int × Int)
def SR.key (x : SR) : SK := (x.set, x.ss)
def keys (L : List SR) : List SK := L.map SR.key
theorem keys_length (L : List SR) : (keys L).length = L.length := by simp [keys]
theorem keys_get {L : List SR} {k : Nat} (h : k < L.length) : (keys L)[k]'(by rw [keys_length]; exact h) = (L[k].set, L[k].ss) := by simp [keys, SR.key]
def SR.cells (x : SR) : List Value := [.string (txt x.set), x.sv, x.xv]
def srs (L : List SR) : List Value := L.flatMap SR.cells
theorem srs_length (l : List SR) : (srs l).length = l.length * 3 := by
  induction l with
  | nil => rfl
  | cons x l ih => simp only [srs, List.flatMap_cons, List.length_append, List.length_cons, List.length_nil, SR.cells] at ih ⊢; omega
theorem srs_append (l m : List SR) : srs (l ++ m) = srs l ++ srs m := by simp [srs]
theorem srs_get (l : List SR) (p : Nat) (h : p < l.length) : (srs l)[p * 3]? = some (.string (txt l[p].set)) ∧ (srs l)[p * 3 + 1]? = some l[p].sv ∧ (srs l)[p * 3 + 2]? = some l[p].xv := by
  have e : srs l = srs (l.take p) ++ (srs [l[p]] ++ srs (l.drop (p + 1))) := by
    rw [← srs_append, ← srs_append, List.singleton_append, ← List.drop_eq_getElem_cons h, List.take_append_drop]
  have hl : (srs (l.take p)).length = p * 3 := by rw [srs_length, List.length_take]; omega
  rw [e]
  refine ⟨?_, ?_, ?_⟩
  · rw [List.getElem?_append_right (by omega), hl, Nat.sub_self]; rfl
  · rw [List.getElem?_append_right (by omega), hl, show p * 3 + 1 - p * 3 = 1 by omega]; rfl
  · rw [List.getElem?_append_right (by omega), hl, show p * 3 + 2 - p * 3 = 2 by omega]; rfl
theorem srs_take (l : List SR) (k : Nat) : (srs l).take (k * 3) = srs (l.take k) := by
  by_cases h : k ≤ l.length
  · conv => lhs; rw [← List.take_append_drop k l, srs_append]
    rw [List.take_append_of_le_length (by rw [srs_length, List.length_take]; omega), List.take_of_length_le (by rw [srs_length, List.length_take]; omega)]
  · rw [List.take_of_length_le (by rw [srs_length]; omega), List.take_of_length_le (by omega)]
theorem srs_drop (l : List SR) (k : Nat) : (srs l).drop (k * 3) = srs (l.drop k) := by
  by_cases h : k ≤ l.length
  · have hl : (srs (l.take k)).length = k * 3 := by rw [srs_length, List.length_take]; omega
    conv => lhs; rw [← List.take_append_drop k l, srs_append]
    rw [← hl, List.drop_left]
  · rw [List.drop_of_length_le (by rw [srs_length]; omega), List.drop_of_length_le (by omega)]; rfl
structure SR.ok (w : World) (x : SR) : Prop where
  set_ : w.ownsRow 0 25 2 x.sv x.set.length (lbls x.set)
  smp_ : w.ownsRow 0 30 2 x.xv x.ss.length (smps x.ss)
theorem SR.ok.below {w w' : World} {x : SR} (h : x.ok w) (hb : Below w.heap.size w w') : x.ok w' := ⟨own_below h.set_ hb (Nat.le_refl _), own_below h.smp_ hb (Nat.le_refl _)⟩
theorem slice_one {w : World} {b n s : Nat} {t : TypeId} {v : Value} {xs : List Value} (h : w.ownsRow b t s v n xs) : v.oneCell' = true := by
  obtain ⟨A, c, rfl, _⟩ := own_slice h; rfl
theorem srs_one {w : World} {L : List SR} (h : ∀ x ∈ L, x.ok w) : ∀ u ∈ srs L, u.oneCell' = true := by
  intro u hu
  simp only [srs, List.mem_flatMap] at hu
  obtain ⟨x, hx, hu⟩ := hu
  simp only [SR.cells, List.mem_cons, List.not_mem_nil, or_false] at hu
  rcases hu with rfl | rfl | rfl
  · rfl
  · exact slice_one (h x hx).set_
  · exact slice_one (h x hx).smp_
theorem own_hasL {w : World} {b : Nat} {v : Value} {l : List Lbl} (h : w.ownsRow b 25 2 v l.length (lbls l)) : HasL w v l := by
  obtain ⟨A, c, rfl, h1, h2⟩ := own_slice h
  exact ⟨A, c, rfl, Sees.of_own h, h1, h2⟩
structure StAt (g : Nat) (v : Value) (L : List SR) (w : World) : Prop where
  box : Blk w g 81 [v]
  rows : w.ownsRow 0 90 3 v L.length (srs L)
  each : ∀ x ∈ L, x.ok w
theorem StAt.below {g : Nat} {v : Value} {L : List SR} {w w' : World} (h : StAt g v L w) (hb : Below w.heap.size w w') : StAt g v L w' :=
  ⟨h.box.below hb h.box.lt, own_below h.rows hb (Nat.le_refl _), fun x hx => (h.each x hx).below hb⟩
theorem StAt.stays {g : Nat} {v : Value} {L : List SR} {w : World} (h : StAt g v L w) : Stays (fun W => StAt g v L W) w := fun _ hb => h.below hb
theorem own_fr {w : World} {base : Nat} {t : TypeId} {size n c : Nat} {ad : Addr} {xs : List Value} (h : w.ownsRow base t size (.slice (some ad) n c) n xs) (i : Nat) : ∃ g, ad = ⟨g, 0, none⟩ ∧ g < w.heap.size ∧ w.frozen? ⟨g, i, none⟩ = false := by
  rcases h.2 with ⟨h1, _⟩ | ⟨g, cap, cur, hv, _, hh, _⟩
  · cases h1
  · injection hv with hv; injection hv with hv
    exact ⟨g, hv, (Array.getElem?_eq_some_iff.1 hh).1, by simp [World.frozen?, hh]⟩
theorem StAt.row {g : Nat} {A : Option Addr} {n c : Nat} {L : List SR} {w : World} (h : StAt g (.slice A n c) L w) {k : Nat} (hk : k < L.length) :
    ∃ ad, A = some ad ∧ (ad.add (k * 3)).block < w.heap.size ∧ w.cell? (ad.add (k * 3)) = some (.string (txt L[k].set)) ∧ w.cell? ⟨(ad.add (k * 3)).block, (ad.add (k * 3)).off + 1, none⟩ = some L[k].sv ∧ SerP L[k].ss w (ad.add (k * 3)).block ((ad.add (k * 3)).off + 2) L[k].xv ∧ HasL w L[k].sv L[k].set := by
  have hr := h.rows
  have hn : n = L.length := by
    have := own_slice hr; obtain ⟨_, _, e, _⟩ := this; injection e
  subst hn
  obtain ⟨ad, e, _, hc⟩ := (Sees.of_own hr).at_ (by omega)
  subst e
  obtain ⟨h0, h1, h2⟩ := srs_get L k hk
  have hok := h.each L[k] (List.getElem_mem _)
  obtain ⟨r, er, hlt, hf⟩ := own_fr hr (k * 3 + 2)
  have hb : (ad.add (k * 3)).block = r := by rw [add_block, er]
  have hof : (ad.add (k * 3)).off = k * 3 := by rw [er]; unfold Addr.add; split <;> simp_all
  refine ⟨ad, rfl, by rw [hb]; exact hlt, hc _ _ h0, by rw [add_spelt _ _ _ (by omega)]; exact hc _ _ h1, ⟨by rw [add_spelt _ _ _ (by omega)]; exact hc _ _ h2, by rw [hb, hof]; exact hf, by rw [hb]; exact hlt, hok.smp_⟩, own_hasL hok.set_⟩
def placeN (D : List SK) (t : List UInt8) : Nat := (D.takeWhile fun x => Op.bytesLess (printL x.1) t).length
def placeB (D : List SK) (t : List UInt8) : Bool := match D[placeN D t]? with | some x => printL x.1 == t | none => false
theorem placeN_le (D : List SK) (t : List UInt8) : placeN D t ≤ D.length := by unfold placeN; exact (List.takeWhile_sublist _).length_le
theorem placeN_of {D : List SK} {t : List UInt8} {k : Nat} (hk : k ≤ D.length) (h1 : ∀ i (h : i < D.length), i < k → Op.bytesLess (printL D[i].1) t = true) (h2 : ∀ h : k < D.length, Op.bytesLess (printL D[k].1) t = false) : placeN D t = k := by
  induction D generalizing k with
  | nil => have : k = 0 := by simpa using hk
           subst this; rfl
  | cons x D ih =>
    cases k with
    | zero =>
      have := h2 (by simp)
      simp only [List.getElem_cons_zero] at this
      unfold placeN
      rw [List.takeWhile_cons_of_neg (by simp [this])]; rfl
    | succ k =>
      have h0 := h1 0 (by simp) (by omega)
      simp only [List.getElem_cons_zero] at h0
      have := ih (k := k) (by simpa using hk) (fun i h hi => h1 (i + 1) (by rw [List.length_cons]; omega) (by omega)) (fun h => h2 (by rw [List.length_cons]; omega))
      unfold placeN at this ⊢
      rw [List.takeWhile_cons_of_pos (p := fun x : SK => Op.bytesLess (printL x.1) t) h0, List.length_cons, this]
theorem placeB_of {D : List SK} {t : List UInt8} {k : Nat} (h : placeN D t = k) (hk : k < D.length) : placeB D t = (printL D[k].1 == t) := by
  unfold placeB; rw [h, List.getElem?_eq_getElem hk]
theorem placeB_end {D : List SK} {t : List UInt8} {k : Nat} (h : placeN D t = k) (hk : D.length ≤ k) : placeB D t = false := by
  unfold placeB; rw [h, List.getElem?_eq_none hk]
theorem place_any (g : Nat) (v : Value) (L : List SR) (t : ByteArray) (w : World) (h : StAt g v L w) (hn : L.length ≤ 1000000) :
    Calls Tryz.prog 30 #[.pointer (some ⟨g, 0, none⟩), .string t] w fun e w' => e = .returned (.tuple #[.int .i64 (placeN (keys L) t.toList), .bool (placeB (keys L) t.toList)]) ∧ Below w.heap.size w w' := by
  obtain ⟨A, c, rfl, hc1, hc2⟩ := own_slice h.rows
  have hc0 : w.cell? ⟨g, 0, none⟩ = some (.slice A L.length c) := h.box.cell 0
  have hg := h.box.lt
  have H := Lib.hid h; clear h
  have HKL := Lib.hid (keys_length L)
  obtain ⟨pn, hpn⟩ : ∃ p, placeN (keys L) t.toList = p := ⟨_, rfl⟩
  obtain ⟨pb, hpb⟩ : ∃ p, placeB (keys L) t.toList = p := ⟨_, rfl⟩
  rw [hpn, hpb]
  have HPN := Lib.hid hpn; have HPB := Lib.hid hpb
  clear hpn hpb
  obtain ⟨m, hm⟩ : ∃ m, L.length = m := ⟨_, rfl⟩
  have HM := Lib.hid hm
  rw [hm] at hc0 hc1 hn H HKL
  clear hm
  go_enter Tryz.func30, Tryz.ntmps30
  go_wp2_with fail
  go_loop [12] (fun x => ∃ k : Nat, k ≤ m ∧ x = .int .i64 k ∧ ∀ i (h : i < (keys L).length), i < k → Op.bytesLess (printL (keys L)[i].1) t.toList = true) (fun x => m - (intOf x).toNat)
  case atStart => exact ⟨0, Nat.zero_le _, rfl, fun i h h0 => by omega⟩
  case round =>
    obtain ⟨k, hk, rfl, hall⟩ := hrel
    have HA := Lib.hid hall; clear hall
    by_cases hlt : k < m
    · have hkl : k < L.length := by rw [HM.out]; exact hlt
      obtain ⟨ad, hA, hal, c0, c1, _, _⟩ := H.out.row hkl
      subst hA
      have HKG : Hid (printL ((keys L)[k]'(by rw [keys_length]; exact hkl)).1 = (txt L[k].set).toList) := Lib.hid (by rw [keys_get hkl, txt_list])
      generalize txt L[k].set = tx at *
      by_cases hls : Op.bytesLess tx.toList t.toList = true
      · have hq : (!Op.bytesLess tx.toList t.toList) = false := by rw [hls]; rfl
        have HNX := Lib.hid (show ∀ i (h : i < (keys L).length), i < k + 1 → Op.bytesLess (printL (keys L)[i].1) t.toList = true from fun i h hi => by
          rcases Nat.lt_or_ge i k with h1 | h1
          · exact HA.out i h h1
          · have : i = k := by omega
            subst this; rw [HKG.out]; exact hls)
        clear hls HKG
        go_wp2_with fail
        go_round
        case rel => exact ⟨k + 1, by omega, by go_num, HNX.out⟩
        case measure => simp [intOf]; omega
      · have hls2 : Op.bytesLess tx.toList t.toList = false := by simpa using hls
        have hq : (!Op.bytesLess tx.toList t.toList) = true := by rw [hls2]; rfl
        obtain ⟨eb, heb⟩ : ∃ b, (tx.toList == t.toList) = b := ⟨_, rfl⟩
        have hp := placeN_of (t := t.toList) (k := k) (by rw [HKL.out]; omega) HA.out (fun h => by rw [HKG.out]; exact hls2)
        have HPK := Lib.hid (show pn = k from HPN.out.symm.trans hp)
        have HPE := Lib.hid (show pb = eb by rw [← HPB.out, placeB_of hp (by rw [HKL.out]; exact hlt), HKG.out]; exact heb)
        clear hls hls2 HKG hp
        go_wp2_with fail
        go_quiet (fail)
        go_wp2_with fail
        go_ret2
        exact ⟨by rw [HPK.out, HPE.out]; try rfl, (by repeat (first | exact Below.refl _ _ | refine Below.setCell ?_ (by simp) _ | refine below_drewN3 ?_ _ | refine Below.drew ?_ | refine Below.alloc ?_ (by simp) _ | refine Below.alloc ?_ (by simp; omega) _))⟩
    · obtain rfl : k = m := by omega
      have hp := placeN_of (t := t.toList) (k := k) (by rw [HKL.out]; omega) HA.out (fun h => absurd h (by rw [HKL.out]; omega))
      have HPK := Lib.hid (show pn = k from HPN.out.symm.trans hp)
      have HPE := Lib.hid (show pb = false by rw [← HPB.out, placeB_end hp (by rw [HKL.out]; omega)])
      clear hp
      go_wp2_with fail
      go_ret2
      exact ⟨by rw [HPK.out, HPE.out]; try rfl, (by repeat (first | exact Below.refl _ _ | refine Below.setCell ?_ (by simp) _ | refine below_drewN3 ?_ _ | refine Below.drew ?_ | refine Below.alloc ?_ (by simp) _ | refine Below.alloc ?_ (by simp; omega) _))⟩
end Go.Proofs.YtlmakdclebbbkaaGreat
