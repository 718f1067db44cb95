/- Texts, merged in one. -/
import Derived.Test.YtlmakdclebbbkaaGreatBase24
import Derived.Test.YtlmakdclebbbkaaGreatBase25
import Derived.Test.YtlmakdclebbbkaaGreatBase26
import Derived.Test.YtlmakdclebbbkaaGreatBase22
namespace Go.Proofs.YtlmakdclebbbkaaGreat
open Go.ChangeShapes Go.WideShapes Go.ChangeAt Go.RowKit
set_option linter.unusedVariables false
set_option linter.unusedSimpArgs false
set_option maxRecDepth 100000
theorem sets_iff (rows : List PtR) (n : Nat) : (∀ x ∈ rows, x.set.length ≤ n) ↔ ∀ p ∈ ptsOf rows, p.1.length ≤ n := by
  unfold ptsOf
  constructor
  · intro h p hp
    rw [List.mem_map] at hp; obtain ⟨x, hx, rfl⟩ := hp; exact h x hx
  · intro h x hx
    exact h (x.set, x.val) (List.mem_map.2 ⟨x, hx, rfl⟩)
theorem vals_iff (rows : List PtR) : (∀ x ∈ rows, I64 x.val) ↔ ∀ p ∈ ptsOf rows, I64 p.2 := by
  unfold ptsOf
  constructor
  · intro h p hp
    rw [List.mem_map] at hp; obtain ⟨x, hx, rfl⟩ := hp; exact h x hx
  · intro h x hx
    exact h (x.set, x.val) (List.mem_map.2 ⟨x, hx, rfl⟩)
theorem ptsOf_app (a b : List PtR) : ptsOf (a ++ b) = ptsOf a ++ ptsOf b := by simp [ptsOf]
theorem among_mem {ks : List (List UInt8)} {b : Bool} {ps : List Pt} {p : Pt} (h : p ∈ amongF ks b ps) : p ∈ ps := (List.mem_filter.1 h).1
theorem among_len (ks : List (List UInt8)) (b : Bool) (ps : List Pt) : (amongF ks b ps).length ≤ ps.length := List.length_filter_le _ _
def logicF (kd : Int) (ps qs : List Pt) : List Pt := if kd = 14 then amongF (keysP qs) true ps else if kd = 16 then amongF (keysP qs) false ps else ps ++ amongF (keysP ps) false qs
def logicR (kd : Int) (ps qs : List Pt) : List Pt × Int := if (twiceF (keysP ps) || twiceF (keysP qs)) = true then ([], 5) else if kd = 14 ∨ kd = 15 ∨ kd = 16 then (sortP (logicF kd ps qs), 0) else ([], 7)
theorem pts_oneC {w : World} {l : List PtR} (h : ∀ x ∈ l, OwnL w x.sv x.set) : ∀ u ∈ pts l, u.oneCell' = true := by
  intro u hu
  simp only [pts, List.mem_flatMap, PtR.cells] at hu
  obtain ⟨x, hx, hu⟩ := hu
  obtain ⟨A, c, e, _⟩ := h x hx
  rw [e] at hu
  simp only [List.mem_cons, List.not_mem_nil, or_false] at hu
  rcases hu with rfl | rfl <;> rfl
theorem concat2_any (b1 b2 : Nat) (A B : Option Addr) (c cB g : Nat) (ra rb : List PtR) (w : World) (h : PtsAt b1 (.slice A ra.length c) ra w) (h2 : PtsAt b2 (.slice B rb.length cB) rb w) (hn : ra.length ≤ 1000) (hnB : rb.length ≤ 1000) (hg : Blk w g 38 [.slice A ra.length c, .slice B rb.length cB]) (hc : c ≤ 9223372036854775807 ∧ ra.length ≤ c) (hcB : cB ≤ 9223372036854775807 ∧ rb.length ≤ cB) :
    Calls Tryz.prog 59 #[.slice (some ⟨g, 0, none⟩) 2 2] w (PtsAns (ptsOf ra ++ ptsOf rb) w) := by
  have h3 : PartsPts w w.heap.size (some ⟨g, 0, none⟩) 2 [ra, rb] := by
    refine ⟨rfl, fun j l hj => ?_⟩
    match j with
    | 0 => injection hj with hj; subst hj; exact ⟨_, A, ra.length, c, rfl, hg.lt, by rw [add_zero']; exact hg.cell 0, Sees.of_own h.own, rfl, hc.2, hc.1⟩
    | 1 => injection hj with hj; subst hj; exact ⟨_, B, rb.length, cB, rfl, hg.lt, by rw [add_mkV]; exact hg.cell 1, Sees.of_own h2.own, rfl, hcB.2, hcB.1⟩
    | j + 2 => simp at hj
  refine (concat_Pts (some ⟨g, 0, none⟩) 2 2 [ra, rb] w h3 (by omega) (by simp; omega) ?_).mono ?_
  · intro l hl
    simp only [List.mem_cons, List.not_mem_nil, or_false] at hl
    rcases hl with rfl | rfl
    · exact pts_oneC h.each
    · exact pts_oneC h2.each
  · rintro e w' ⟨A', c', rfl, hown, hb, h5, h6⟩
    have e1 : [ra, rb].flatten = ra ++ rb := by simp
    rw [e1] at hown h5 ⊢
    exact ⟨A', c', ra ++ rb, ptsOf_app _ _, rfl, ⟨hown, fun x hx => by
      rcases List.mem_append.1 hx with hx | hx
      · exact (h.each x hx).below hb
      · exact (h2.each x hx).below hb⟩, hb, h5, h6⟩
set_option maxHeartbeats 4000000 in
theorem logic_any (b1 b2 : Nat) (A B : Option Addr) (c cB : Nat) (ra rb : List PtR) (kd : Int) (w : World) (h : PtsAt b1 (.slice A ra.length c) ra w) (h2 : PtsAt b2 (.slice B rb.length cB) rb w) (hn : ra.length + rb.length ≤ 1000) (hsl : ∀ x ∈ ra, x.set.length ≤ 1000) (hslB : ∀ x ∈ rb, x.set.length ≤ 1000) :
    Calls Tryz.prog 27 #[.int .i64 kd, .slice A ra.length c, .slice B rb.length cB] w (PtsAnsE (logicR kd (ptsOf ra) (ptsOf rb)) w) := by
  have HTW := Lib.hid (twice_any b1 A c ra w h (by omega) hsl)
  have HTB := Lib.hid (fun V (hV : Below w.heap.size w V) => twice_any b2 B cB rb V (h2.below hV) (by omega) hslB)
  have HAM := Lib.hid (fun V t (hV : Below w.heap.size w V) => among_any b1 b2 A B c cB ra rb t V (h.below hV) (h2.below hV) (by omega) (by omega) hsl hslB)
  have HAB := Lib.hid (fun V t (hV : Below w.heap.size w V) => among_any b2 b1 B A cB c rb ra t V (h2.below hV) (h.below hV) (by omega) (by omega) hslB hsl)
  have H := Lib.hid (fun (V : World) (hV : Below w.heap.size w V) => h.below hV)
  have HSL := Lib.hid ((sets_iff ra 1000).1 hsl); have HSB := Lib.hid ((sets_iff rb 1000).1 hslB)
  have HCA : Hid (c ≤ 9223372036854775807 ∧ ra.length ≤ c) := Lib.hid (by obtain ⟨_, _, e, q1, q2⟩ := own_slice h.own; injection e with _ _ e; subst e; exact ⟨q2, q1⟩)
  have HNN := Lib.hid hn
  clear h h2 hsl hslB
  obtain ⟨tw, htw⟩ : ∃ b, twiceF (keysOf ra) = b := ⟨_, rfl⟩
  obtain ⟨twB, htwB⟩ : ∃ b, twiceF (keysOf rb) = b := ⟨_, rfl⟩
  have HRS : Hid (logicR kd (ptsOf ra) (ptsOf rb) = if (tw || twB) = true then ([], 5) else if kd = 14 ∨ kd = 15 ∨ kd = 16 then (sortP (logicF kd (ptsOf ra) (ptsOf rb)), 0) else ([], 7)) := Lib.hid (by unfold logicR; rw [← keysOf_pts, ← keysOf_pts, htw, htwB])
  have HK1 : Hid (∀ b, amongF (keysOf rb) b (ptsOf ra) = amongF (keysP (ptsOf rb)) b (ptsOf ra)) := Lib.hid (fun b => by rw [keysOf_pts])
  have HK2 : Hid (∀ b, amongF (keysOf ra) b (ptsOf rb) = amongF (keysP (ptsOf ra)) b (ptsOf rb)) := Lib.hid (fun b => by rw [keysOf_pts])
  rw [htw] at HTW
  rw [htwB] at HTB
  have HLA := Lib.hid (ptsOf_len ra); have HLB := Lib.hid (ptsOf_len rb)
  have HRL := Lib.hid (show ∃ x y, x = ra.length ∧ y = rb.length from ⟨_, _, rfl, rfl⟩)
  clear htw htwB
  go_enter Tryz.func27, Tryz.ntmps27
  go_wp2_with fail
  (with_reducible refine HTW.out.mono ?_); rintro e w1 ⟨rfl, hb1⟩
  have HB1 := Lib.hid hb1
  clear hb1 HTW
  cases tw with
  | true =>
    have HF : Hid (PtsAnsE (logicR kd (ptsOf ra) (ptsOf rb)) w (.returned (.tuple #[.slice none 0 0, .int .i64 5])) w1) := Lib.hid (.fault (by rw [HRS.out]; rfl) HB1.out)
    go_wp2_with fail
    go_ret2
    exact HF.out
  | false =>
  go_wp2_with fail
  (with_reducible refine (HTB.out _ HB1.out).mono ?_); rintro e w2 ⟨rfl, hb2⟩
  have HB2 := Lib.hid (HB1.out.trans (hb2.mono HB1.out.size))
  clear hb2 HTB HB1
  cases twB with
  | true =>
    have HF : Hid (PtsAnsE (logicR kd (ptsOf ra) (ptsOf rb)) w (.returned (.tuple #[.slice none 0 0, .int .i64 5])) w2) := Lib.hid (.fault (by rw [HRS.out]; rfl) HB2.out)
    go_wp2_with fail
    go_ret2
    exact HF.out
  | false =>
  by_cases k14 : kd = 14
  · subst k14
    have HF : Hid (logicR 14 (ptsOf ra) (ptsOf rb) = (sortP (amongF (keysOf rb) true (ptsOf ra)), 0)) := Lib.hid (by rw [HRS.out, HK1.out]; rfl)
    have HC := Lib.hid (HAM.out w2 true HB2.out)
    clear HRS HAM HAB
    go_wp2_with fail
    (with_reducible refine HC.out.mono ?_); rintro e w3 ⟨X, cx, rows, h1, rfl, h3, h4, h5, h6⟩
    have HS := Lib.hid (sort_any w2.heap.size X cx rows w3 h3 (by have q := congrArg List.length h1; rw [ptsOf_len] at q; have q2 := among_len (keysOf rb) true (ptsOf ra); rw [HLA.out] at q2; have := HNN.out; omega) ((sets_iff rows 1000).2 (by rw [h1]; exact fun p hp => HSL.out p (among_mem hp))))
    have HB3 := Lib.hid (HB2.out.trans (h4.mono HB2.out.size))
    have H1 := Lib.hid h1
    clear h1 h3 h4 h5 h6 HC HNN hn
    go_wp2_with fail
    (with_reducible refine HS.out.mono ?_); rintro e w4 ⟨Y, cy, ry, h1, rfl, h3, h4, h5, h6⟩
    have HG : Hid (PtsAnsE (logicR 14 (ptsOf ra) (ptsOf rb)) w (.returned (.tuple #[.slice Y ry.length cy, .int .i64 0])) w4) := Lib.hid (.ok HF.out (by rw [h1, H1.out]) h3 HB3.out.size (HB3.out.trans (h4.mono HB3.out.size)) ⟨h5, h6⟩)
    clear h1 h3 h4 h5 h6 HS HF
    go_wp2_with fail
    go_ret2
    exact HG.out
  by_cases k16 : kd = 16
  · subst k16
    have HF : Hid (logicR 16 (ptsOf ra) (ptsOf rb) = (sortP (amongF (keysOf rb) false (ptsOf ra)), 0)) := Lib.hid (by rw [HRS.out, HK1.out]; rfl)
    have HC := Lib.hid (HAM.out w2 false HB2.out)
    clear HRS HAM HAB
    go_wp2_with fail
    (with_reducible refine HC.out.mono ?_); rintro e w3 ⟨X, cx, rows, h1, rfl, h3, h4, h5, h6⟩
    have HS := Lib.hid (sort_any w2.heap.size X cx rows w3 h3 (by have q := congrArg List.length h1; rw [ptsOf_len] at q; have q2 := among_len (keysOf rb) false (ptsOf ra); rw [HLA.out] at q2; have := HNN.out; omega) ((sets_iff rows 1000).2 (by rw [h1]; exact fun p hp => HSL.out p (among_mem hp))))
    have HB3 := Lib.hid (HB2.out.trans (h4.mono HB2.out.size))
    have H1 := Lib.hid h1
    clear h1 h3 h4 h5 h6 HC HNN hn
    go_wp2_with fail
    (with_reducible refine HS.out.mono ?_); rintro e w4 ⟨Y, cy, ry, h1, rfl, h3, h4, h5, h6⟩
    have HG : Hid (PtsAnsE (logicR 16 (ptsOf ra) (ptsOf rb)) w (.returned (.tuple #[.slice Y ry.length cy, .int .i64 0])) w4) := Lib.hid (.ok HF.out (by rw [h1, H1.out]) h3 HB3.out.size (HB3.out.trans (h4.mono HB3.out.size)) ⟨h5, h6⟩)
    clear h1 h3 h4 h5 h6 HS HF
    go_wp2_with fail
    go_ret2
    exact HG.out
  by_cases k15 : kd = 15
  · subst k15
    have HF : Hid (logicR 15 (ptsOf ra) (ptsOf rb) = (sortP (ptsOf ra ++ amongF (keysOf ra) false (ptsOf rb)), 0)) := Lib.hid (by rw [HRS.out, HK2.out]; rfl)
    have HC := Lib.hid (HAB.out w2 false HB2.out)
    clear HRS HAM HAB
    go_wp2_with fail
    (with_reducible refine HC.out.mono ?_); rintro e w3 ⟨X, cx, rows, h1, rfl, h3, h4, h5, h6⟩
    have HB3 := Lib.hid (HB2.out.trans (h4.mono HB2.out.size))
    have H1 := Lib.hid h1
    have hrl : rows.length ≤ rb.length := by have q := congrArg List.length h1; rw [ptsOf_len] at q; have q2 := among_len (keysOf ra) false (ptsOf rb); rw [HLB.out] at q2; omega
    have hal := (Below.refl w3.heap.size w3).alloc (Nat.le_refl _) (.cells #[.slice A ra.length c, .slice X rows.length cx] 38)
    have HCC := Lib.hid (concat2_any b1 w2.heap.size A X c cx w3.heap.size ra rows (w3.alloc (.cells #[.slice A ra.length c, .slice X rows.length cx] 38)) (H.out _ (HB3.out.trans (hal.mono HB3.out.size))) (h3.below hal) (by omega) (by omega) (Blk.mk (heap_alloc_new w3 _)) HCA.out ⟨h6, h5⟩)
    have HB4 := Lib.hid (HB3.out.trans (hal.mono HB3.out.size))
    have HRR := Lib.hid hrl
    clear h1 h3 h4 h5 h6 HC hal hrl
    go_wp2_with fail
    (with_reducible refine HCC.out.mono ?_); rintro e w5 ⟨Y, cy, ry, h1, rfl, h3, h4, h5, h6⟩
    have hlen : ry.length ≤ 1000 := by
      have q := congrArg List.length h1
      rw [ptsOf_len, List.length_append, ptsOf_len, ptsOf_len] at q
      have := HRR.out; have := HNN.out; omega
    have HS := Lib.hid (sort_any _ Y cy ry w5 h3 hlen ((sets_iff ry 1000).2 (by
      rw [h1]
      intro p hp
      rcases List.mem_append.1 hp with hp | hp
      · exact HSL.out p hp
      · rw [H1.out] at hp; exact HSB.out p (among_mem hp))))
    have HB5 := Lib.hid (HB4.out.trans (h4.mono HB4.out.size))
    have H2 := Lib.hid (show ptsOf ry = ptsOf ra ++ amongF (keysOf ra) false (ptsOf rb) by rw [h1, H1.out])
    clear h1 h3 h4 h5 h6 HCC HNN hn hlen HRR
    go_wp2_with fail
    (with_reducible refine HS.out.mono ?_); rintro e w6 ⟨Z, cz, rz, h1, rfl, h3, h4, h5, h6⟩
    have HG : Hid (PtsAnsE (logicR 15 (ptsOf ra) (ptsOf rb)) w (.returned (.tuple #[.slice Z rz.length cz, .int .i64 0])) w6) := Lib.hid (.ok HF.out (by rw [h1, H2.out]) h3 HB5.out.size (HB5.out.trans (h4.mono HB5.out.size)) ⟨h5, h6⟩)
    clear h1 h3 h4 h5 h6 HS HF
    go_wp2_with fail
    go_ret2
    exact HG.out
  · have t1 := int_ne9 k14; have t2 := int_ne9 k15; have t3 := int_ne9 k16
    have HG : Hid (PtsAnsE (logicR kd (ptsOf ra) (ptsOf rb)) w (.returned (.tuple #[.slice none 0 0, .int .i64 7])) w2) := Lib.hid (.fault (by rw [HRS.out, if_neg (by decide), if_neg (by rintro (h | h | h) <;> contradiction)]) HB2.out)
    clear HRS HAM HAB
    go_wp2_with fail
    go_ret2
    exact HG.out
end Go.Proofs.YtlmakdclebbbkaaGreat

namespace Go.Proofs.YtlmakdclebbbkaaGreat
open Go.ChangeShapes Go.WideShapes Go.ChangeAt Go.RowKit
set_option linter.unusedVariables false
set_option linter.unusedSimpArgs false
set_option maxRecDepth 100000
def aboveF (k n : Int) (ps : List Pt) : List Pt := ps.filter fun p => holdsC k p.2 n
theorem aboveF_next (kd n : Int) (l : List PtR) (k : Nat) (h : k < l.length) : aboveF kd n (ptsOf (l.take (k + 1))) = aboveF kd n (ptsOf (l.take k)) ++ (if holdsC kd l[k].val n = true then [(l[k].set, l[k].val)] else []) := by
  unfold aboveF ptsOf
  rw [List.take_succ_eq_append_getElem h, List.map_append, List.filter_append]
  congr 1
  by_cases hq : holdsC kd l[k].val n = true
  · rw [if_pos hq]; simp [hq]
  · rw [if_neg hq]; simp [hq]
set_option maxHeartbeats 4000000 in
theorem above_any (b1 : Nat) (A : Option Addr) (c : Nat) (ra : List PtR) (kd nn : Int) (w : World) (h : PtsAt b1 (.slice A ra.length c) ra w) (hn : ra.length ≤ 1000) (hsl : ∀ x ∈ ra, x.set.length ≤ 1000) :
    Calls Tryz.prog 152 #[.int .i64 kd, .slice A ra.length c, .int .i64 nn] w (PtsAns (sortP (aboveF kd nn (ptsOf ra))) w) := by
  obtain ⟨i0, hi, hz0, hz1, hz2⟩ := info_parts Tryz.infoPt
  have HI := Lib.hid hi; have HZ0 := Lib.hid hz0; have HZ1 := Lib.hid hz1; have HZ2 := Lib.hid hz2
  clear hi hz0 hz1 hz2
  have H := Lib.hid (fun (V : World) (hV : Below w.heap.size w V) => h.below hV)
  have HSL := Lib.hid hsl
  have HAN := Lib.hid (aboveF_next kd nn ra)
  have HR0 := Lib.hid (Below.refl w.heap.size w)
  clear h hsl
  obtain ⟨N, hN⟩ : ∃ N, ra.length = N := ⟨_, rfl⟩
  have HN := Lib.hid hN
  rw [hN] at H hn ⊢
  rw [← hN] at H
  clear hN
  go_enter Tryz.func152, Tryz.ntmps152
  go_wp2_with fail
  go_loopg [7, 9, 12] N (fun g x7 x9 x12 wr => ∃ (k : Nat) (X : Option Addr) (cx : Nat) (rows : List PtR), k + g = N ∧ x12 = .int .i64 k ∧ x7 = .slice X rows.length cx ∧ OutAt w.heap.size (.slice X rows.length cx) rows k (aboveF kd nn (ptsOf (ra.take k))) wr ∧ Below w.heap.size w wr)
  case atStart => exact ⟨0, none, 0, [], by omega, rfl, rfl, OutAt.nil _ _, HR0.out⟩
  case round =>
    obtain ⟨k, X, cx, rows, hkg, rfl, rfl, ho, hbel⟩ := hrel
    have HO := Lib.hid ho; have HBE := Lib.hid hbel
    have HBW := hbel
    clear ho hbel HR0
    cases gk with
    | zero =>
      obtain rfl : k = N := by omega
      have HC := Lib.hid (sort_any w.heap.size X cx rows wr HO.out.at_ (by have := HO.out.len; omega) HO.out.sets)
      have HF : Hid (ptsOf rows = aboveF kd nn (ptsOf ra)) := Lib.hid (by rw [HO.out.eq, List.take_of_length_le (by rw [HN.out]; exact Nat.le_refl _)])
      clear HO HBW
      go_wp2_with fail
      (with_reducible refine HC.out.mono ?_); rintro e w2 ⟨Y, cy, ry, h1, rfl, h3, h4, h5, h6⟩
      have HG : Hid (PtsAns (sortP (aboveF kd nn (ptsOf ra))) w (.returned (.slice Y ry.length cy)) w2) := Lib.hid ⟨Y, cy, ry, by rw [h1, HF.out], rfl, h3.mono HBE.out.size, HBE.out.trans (h4.mono HBE.out.size), h5, h6⟩
      clear h1 h3 h4 h5 h6 HC HF
      go_wp2_with fail
      go_ret
      exact HG.out
    | succ g =>
      have hlt : k < ra.length := by have := HN.out; omega
      have HR := H.out wr HBW
      obtain ⟨ad, hA, e0, e1, _⟩ := pt_get HR hlt
      have hol := HR.each ra[k] (List.getElem_mem hlt)
      have hl := HSL.out ra[k] (List.getElem_mem hlt)
      have HNX := Lib.hid (HAN.out k hlt)
      subst hA
      generalize ra[k] = q at *
      obtain ⟨sv, l, val⟩ := q
      simp only at e0 e1 hol hl
      obtain ⟨A2, c2, hsv, hss, _, _⟩ := hol.hasL
      subst hsv
      obtain ⟨sl, hsl⟩ : ∃ n, l.length = n := ⟨_, rfl⟩
      have HSE := Lib.hid hsl
      rw [hsl] at e0 hss hl hol
      have ha := (Below.refl wr.heap.size wr).alloc (Nat.le_refl _) (.cells #[.slice A2 sl c2, .int .i64 val] 43)
      have HX2 := Lib.hid (Blk.mk (heap_alloc_new wr (.cells #[.slice A2 sl c2, .int .i64 val] 43)) : Blk _ wr.heap.size 43 [.slice A2 sl c2, .int .i64 val])
      have HC := Lib.hid (fun V => holds_v kd val nn V)
      have HO2 := Lib.hid (HO.out.below ha)
      have HOL2 := Lib.hid (hol.below ha)
      have HBE2 := Lib.hid (HBE.out.trans (ha.mono HBE.out.size))
      have z0 := HX2.out.cell 0
      have z1 := HX2.out.cell 1
      simp only [List.getElem?_cons_zero, List.getElem?_cons_succ] at z0 z1
      obtain ⟨hb, hhb⟩ : ∃ b, holdsC kd val nn = b := ⟨_, rfl⟩
      rw [hhb] at HC HNX
      clear hss hol ha HO HBE HR HBW hsl hhb z0 z1
      go_upto_region 5 with fail
      obtain ⟨bx, hbx⟩ : ∃ b, wr.heap.size = b := ⟨_, rfl⟩
      rw [hbx] at HX2
      rw [hbx]
      clear hbx e0 e1
      generalize wr.alloc (.cells #[.slice A2 sl c2, .int .i64 val] 43) = W2 at *
      have z0 := HX2.out.cell 0
      have z1 := HX2.out.cell 1
      simp only [List.getElem?_cons_zero, List.getElem?_cons_succ] at z0 z1
      go_wp2_with fail
      (with_reducible refine (HC.out _).mono ?_); rintro e w3 ⟨rfl, rfl⟩
      cases hb with
      | false =>
        have HO3 := Lib.hid (HO2.out.next (HNX.out.trans (by rw [if_neg (by simp), List.append_nil])))
        clear HO2 HNX
        go_wp2_with fail
        go_roundg g
        case measure => omega
        case rel => exact ⟨k + 1, X, cx, rows, by omega, by first | rfl | go_num, rfl, HO3.out, HBE2.out⟩
      | true =>
        have hb4 := (Below.refl W2.heap.size W2).alloc (Nat.le_refl _) (.cells #[.slice A2 sl c2, .int .i64 val] 43)
        have HO4 := Lib.hid (HO2.out.below hb4)
        have HOL4 := Lib.hid (HOL2.out.below hb4)
        have HBE4 := Lib.hid (HBE2.out.trans (hb4.mono HBE2.out.size))
        have HX4 := Lib.hid ((Blk.mk (heap_alloc_new W2 (.cells #[.slice A2 sl c2, .int .i64 val] 43)) : Blk _ W2.heap.size 43 [.slice A2 sl c2, .int .i64 val]).sees (size := 2) (n := 1) rfl (List.prefix_refl _))
        have HPS := Lib.hid (HNX.out.trans (by rw [if_pos rfl]))
        clear hb4 HO2 HOL2 HBE2 HNX
        go_wp2_with (at_builtin; refine wpList_append_at rfl (.tmp 21) (.tmp 23) 38 rfl w.heap.size 43 i0 (.agg #[.slice none 0 0, .int .i64 0]) 2 32 Tryz.underlying38 HI.out HZ0.out HZ1.out HZ2.out rfl (by decide) (.slice X rows.length cx) rows.length (pts rows) rfl HO4.out.at_.own _ (some ⟨W2.heap.size, 0, none⟩) 1 _ [.slice A2 sl c2, .int .i64 val] rfl HX4.out (by intro u hu; simp at hu; rcases hu with rfl | rfl <;> rfl) (by unfold maxLen; have := HO4.out.len; omega) (by have := HO4.out.len; omega) HBE4.out.size ?_)
        intro v' w5 hown hgr hwh
        have HO5 := Lib.hid (HO4.out.push (l := l) (z := val) HOL4.out (by rw [HSE.out]; exact hl) hown hgr HPS.out)
        have HBE5 := Lib.hid (HBE4.out.grown hgr HBE4.out.size (fun g e => (HO4.out.at_.own.lt g e).1))
        obtain ⟨A5, c5, rfl, _, _⟩ := own_slice hown
        have HL5 := Lib.hid (show (rows ++ [(⟨.slice A2 sl c2, l, val⟩ : PtR)]).length = rows.length + 1 by simp)
        clear hown hgr hwh HO4 HOL4 HBE4 HX4 z0 z1
        go_wp2_with fail
        go_roundg g
        case measure => omega
        case rel => exact ⟨k + 1, A5, c5, _, by omega, by first | rfl | go_num, by rw [HL5.out], by rw [HL5.out]; exact HO5.out, HBE5.out⟩
end Go.Proofs.YtlmakdclebbbkaaGreat

namespace Go.Proofs.YtlmakdclebbbkaaGreat
open Go.ChangeShapes Go.WideShapes Go.ChangeAt Go.RowKit
set_option linter.unusedVariables false
set_option maxRecDepth 100000
def begunF (k v : Int) : Int := if k = 20 then 1 else v
def gatherF (k a b : Int) : Int × Int := if k = 17 then (nV (a + b), nE (a + b)) else if k = 18 then (min a b, 0) else if k = 19 then (max a b, 0) else if k = 20 then (a + 1, 0) else (0, 7)
theorem begun_any (k v : Int) (w : World) : Calls Tryz.prog 149 #[.int .i64 k, .int .i64 v] w fun e w' => e = .returned (.int .i64 (begunF k v)) ∧ w = w' := by
  by_cases h : k = 20
  · have HE := Lib.hid (show begunF k v = 1 by unfold begunF; rw [if_pos h])
    subst h
    go_enter Tryz.func149, Tryz.ntmps149
    go_wp2_with fail
    go_ret
    exact ⟨by rw [HE.out]; rfl, rfl⟩
  · have HE := Lib.hid (show begunF k v = v by unfold begunF; rw [if_neg h])
    have t := int_ne9 h
    go_enter Tryz.func149, Tryz.ntmps149
    go_wp2_with fail
    go_ret
    exact ⟨by rw [HE.out]; rfl, rfl⟩
set_option maxHeartbeats 2000000 in
theorem gathered_any (k a b : Int) (w : World) (wa : I64 a) (wb : I64 b) (hc : k = 20 → a + 1 ≤ 9223372036854775807) :
    Calls Tryz.prog 150 #[.int .i64 k, .int .i64 a, .int .i64 b] w fun e w' => e = .returned (.tuple #[.int .i64 (gatherF k a b).1, .int .i64 (gatherF k a b).2]) ∧ w = w' := by
  have HA := Lib.hid (num_add_any a b w wa wb)
  by_cases k3 : k = 17
  · have HE := Lib.hid (show gatherF k a b = (nV (a + b), nE (a + b)) by unfold gatherF; rw [if_pos k3])
    subst k3
    go_enter Tryz.func150, Tryz.ntmps150
    go_wp2_with fail
    (with_reducible refine HA.out.mono ?_); rintro e w' ⟨rfl, rfl⟩
    go_wp2_with fail
    go_ret2
    exact ⟨by rw [HE.out]; rfl, rfl⟩
  · by_cases k4 : k = 18
    · obtain ⟨m, hm⟩ : ∃ m, min a b = m := ⟨_, rfl⟩
      have HE := Lib.hid (show gatherF k a b = (m, 0) by unfold gatherF; rw [if_neg k3, if_pos k4, hm])
      subst k4
      go_enter Tryz.func150, Tryz.ntmps150
      go_wp2_with fail
      all_goals
        go_ret2
        refine ⟨?_, rfl⟩
        rw [HE.out]
        first | rfl | (show Ending.returned (.tuple #[.int .i64 a, .int .i64 0]) = .returned (.tuple #[.int .i64 m, .int .i64 0]); rw [show a = m by omega]; done) | (show Ending.returned (.tuple #[.int .i64 b, .int .i64 0]) = .returned (.tuple #[.int .i64 m, .int .i64 0]); rw [show b = m by omega]; done)
    · by_cases k5 : k = 19
      · obtain ⟨m, hm⟩ : ∃ m, max a b = m := ⟨_, rfl⟩
        have HE := Lib.hid (show gatherF k a b = (m, 0) by unfold gatherF; rw [if_neg k3, if_neg k4, if_pos k5, hm])
        subst k5
        go_enter Tryz.func150, Tryz.ntmps150
        go_wp2_with fail
        all_goals
          go_ret2
          refine ⟨?_, rfl⟩
          rw [HE.out]
          first | rfl | (show Ending.returned (.tuple #[.int .i64 a, .int .i64 0]) = .returned (.tuple #[.int .i64 m, .int .i64 0]); rw [show a = m by omega]; done) | (show Ending.returned (.tuple #[.int .i64 b, .int .i64 0]) = .returned (.tuple #[.int .i64 m, .int .i64 0]); rw [show b = m by omega]; done)
      · by_cases k6 : k = 20
        · have HE := Lib.hid (show gatherF k a b = (a + 1, 0) by unfold gatherF; rw [if_neg k3, if_neg k4, if_neg k5, if_pos k6])
          have hw : IntKind.i64.wrap (a + 1) = a + 1 := by have := hc k6; unfold I64 at wa; rw [IntKind.wrap_i64]; omega
          subst k6
          go_enter Tryz.func150, Tryz.ntmps150
          go_wp2_with fail
          go_ret2
          exact ⟨by rw [HE.out]; first | rfl | (simp [hw]; done), rfl⟩
        · have HE := Lib.hid (show gatherF k a b = (0, 7) by unfold gatherF; rw [if_neg k3, if_neg k4, if_neg k5, if_neg k6])
          have t3 := int_ne9 k3; have t4 := int_ne9 k4; have t5 := int_ne9 k5; have t6 := int_ne9 k6
          go_enter Tryz.func150, Tryz.ntmps150
          go_wp2_with fail
          go_ret2
          exact ⟨by rw [HE.out]; rfl, rfl⟩
end Go.Proofs.YtlmakdclebbbkaaGreat

namespace Go.Proofs.YtlmakdclebbbkaaGreat
open Go.ChangeShapes Go.WideShapes Go.ChangeAt Go.RowKit
set_option linter.unusedVariables false
set_option linter.unusedSimpArgs false
set_option maxRecDepth 100000
def idxG : List (List UInt8) → List UInt8 → Option Nat
  | [], _ => none
  | k :: ks, t => if k = t then some 0 else (idxG ks t).map (· + 1)
theorem idxG_append (ks : List (List UInt8)) (t0 x : List UInt8) : idxG (ks ++ [t0]) x = match idxG ks x with | some i => some i | none => if t0 = x then some ks.length else none := by
  induction ks with
  | nil => simp [idxG]
  | cons k ks ih =>
    rw [List.cons_append]
    unfold idxG
    by_cases h : k = x
    · rw [if_pos h, if_pos h]
    · rw [if_neg h, if_neg h, ih]
      cases idxG ks x with
      | some i => rfl
      | none => by_cases h2 : t0 = x <;> simp [h2]
theorem idxG_some {ks : List (List UInt8)} {t : List UInt8} : ∀ {i : Nat}, idxG ks t = some i → i < ks.length ∧ ks[i]? = some t := by
  induction ks with
  | nil => intro i h; cases h
  | cons k ks ih =>
    intro i h
    unfold idxG at h
    by_cases hk : k = t
    · rw [if_pos hk] at h; injection h with h; subst h; subst hk; exact ⟨by simp, rfl⟩
    · rw [if_neg hk] at h
      cases e : idxG ks t with
      | none => rw [e] at h; cases h
      | some j =>
        rw [e] at h
        simp only [Option.map_some, Option.some.injEq] at h
        subst h
        obtain ⟨h1, h2⟩ := ih e
        exact ⟨by simp; omega, by simpa using h2⟩
def keepL (ns : List ByteArray) (l : List Lbl) : List Lbl := l.filter fun x => hasS ns x.1
def txtG (gs : List Pt) : List (List UInt8) := gs.map fun g => printL g.1
def stepG (kd : Int) (ns : List ByteArray) (s : List Pt × Int) (p : Pt) : List Pt × Int :=
  if s.2 ≠ 0 then s
  else match idxG (txtG s.1) (printL (keepL ns p.1)) with
    | none => (s.1 ++ [(keepL ns p.1, begunF kd p.2)], 0)
    | some i => match s.1[i]? with
      | none => s
      | some g => if (gatherF kd g.2 p.2).2 = 0 then (s.1.set i (g.1, (gatherF kd g.2 p.2).1), 0) else ([], (gatherF kd g.2 p.2).2)
def groupF (kd : Int) (ns : List ByteArray) (ps : List Pt) : List Pt × Int := ps.foldl (stepG kd ns) ([], 0)
def groupR (kd : Int) (ns : List ByteArray) (ps : List Pt) : List Pt × Int := if (groupF kd ns ps).2 = 0 then (sortP (groupF kd ns ps).1, 0) else ([], (groupF kd ns ps).2)
theorem stepG_stop (kd : Int) (ns : List ByteArray) (s : List Pt × Int) (h : s.2 ≠ 0) (ps : List Pt) : ps.foldl (stepG kd ns) s = s := by
  induction ps with
  | nil => rfl
  | cons p ps ih => rw [List.foldl_cons, show stepG kd ns s p = s by unfold stepG; rw [if_pos h]]; exact ih
theorem groupF_snoc (kd : Int) (ns : List ByteArray) (ps : List Pt) (p : Pt) : groupF kd ns (ps ++ [p]) = stepG kd ns (groupF kd ns ps) p := by unfold groupF; rw [List.foldl_append]; rfl
theorem groupF_next (kd : Int) (ns : List ByteArray) (l : List PtR) (k : Nat) (h : k < l.length) : groupF kd ns (ptsOf (l.take (k + 1))) = stepG kd ns (groupF kd ns (ptsOf (l.take k))) (l[k].set, l[k].val) := by
  unfold ptsOf
  rw [List.take_succ_eq_append_getElem h, List.map_append, List.map_singleton, groupF_snoc]
theorem groupF_hit (kd : Int) (ns : List ByteArray) (l : List PtR) (k : Nat) (h : k < l.length) (h0 : (groupF kd ns (ptsOf (l.take (k + 1)))).2 ≠ 0) : groupF kd ns (ptsOf l) = groupF kd ns (ptsOf (l.take (k + 1))) := by
  have e : ptsOf l = ptsOf (l.take (k + 1)) ++ ptsOf (l.drop (k + 1)) := by unfold ptsOf; rw [← List.map_append, List.take_append_drop]
  rw [e]
  show List.foldl _ _ _ = _
  rw [List.foldl_append]
  exact stepG_stop kd ns _ h0 _
theorem stepG_none {kd : Int} {ns : List ByteArray} {gs : List Pt} {p : Pt} (h : idxG (txtG gs) (printL (keepL ns p.1)) = none) : stepG kd ns (gs, 0) p = (gs ++ [(keepL ns p.1, begunF kd p.2)], 0) := by
  unfold stepG; rw [if_neg (by simp), h]
theorem stepG_some {kd : Int} {ns : List ByteArray} {gs : List Pt} {p g : Pt} {i : Nat} (h : idxG (txtG gs) (printL (keepL ns p.1)) = some i) (hg : gs[i]? = some g) : stepG kd ns (gs, 0) p = if (gatherF kd g.2 p.2).2 = 0 then (gs.set i (g.1, (gatherF kd g.2 p.2).1), 0) else ([], (gatherF kd g.2 p.2).2) := by
  unfold stepG; rw [if_neg (by simp), h]; simp only [hg]
theorem txtG_set {gs : List Pt} {i : Nat} {g : Pt} (hg : gs[i]? = some g) (v : Int) : txtG (gs.set i (g.1, v)) = txtG gs := by
  unfold txtG
  rw [List.map_set]
  apply List.ext_getElem?
  intro j
  by_cases hj : i = j
  · subst hj
    rw [List.getElem?_set]
    obtain ⟨hl, e⟩ := List.getElem?_eq_some_iff.1 hg
    simp [hl, e]
  · rw [List.getElem?_set_ne hj]
theorem I64_nV (n : Int) : I64 (nV n) := by
  by_cases h : I64 n
  · rw [nV_in h]; exact h
  · rw [nV_out h]; unfold I64; omega
theorem gather_in {k a b : Int} (wa : I64 a) (wb : I64 b) (hc : k = 20 → a + 1 ≤ 9223372036854775807) : I64 (gatherF k a b).1 := by
  unfold gatherF
  split
  · exact I64_nV _
  · split
    · unfold I64 at *; dsimp only; omega
    · split
      · unfold I64 at *; dsimp only; omega
      · split
        · rename_i h; have := hc h; unfold I64 at *; dsimp only; omega
        · unfold I64; dsimp only; omega
theorem begun_in {k v : Int} (wv : I64 v) : I64 (begunF k v) := by
  unfold begunF; split
  · unfold I64; omega
  · exact wv
end Go.Proofs.YtlmakdclebbbkaaGreat
