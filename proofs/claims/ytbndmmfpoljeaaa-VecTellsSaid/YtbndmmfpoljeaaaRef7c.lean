/- klaxonref7: find, twice. -/
import Derived.Test.YtbndmmfpoljeaaaRef7b
import Derived.BigQuiet
namespace Go.Proofs.Ytbndmmfpoljeaaa
open Go.ChangeShapes Go.WideShapes Go.ChangeAt Go.RowKit
set_option linter.unusedVariables false
set_option linter.unusedSimpArgs false
set_option maxRecDepth 100000
/-- Rows of points that are read. -/
def PtsS (A : Option Addr) (rows : List PtR) (W : World) : Prop := ∀ (i : Nat) (p : PtR), rows[i]? = some p → ∃ ad, A = some ad ∧ W.cell? (ad.add (i * 2)) = some p.sv ∧ W.cell? ⟨(ad.add (i * 2)).block, (ad.add (i * 2)).off + 1, none⟩ = some (.int .i64 p.val) ∧ HasL W p.sv p.set
theorem PtsS.below {A : Option Addr} {rows : List PtR} {W W' : World} (h : PtsS A rows W) (hb : Below W.heap.size W W') : PtsS A rows W' := fun i p hp => by
  obtain ⟨ad, e, h0, h1, h2⟩ := h i p hp
  exact ⟨ad, e, (hb.cell (World.block_lt_of_cell? W _ h0)).trans h0, (hb.cell (World.block_lt_of_cell? W _ h1)).trans h1, h2.below hb⟩
theorem PtsS.of {base n c : Nat} {A : Option Addr} {rows : List PtR} {W : World} (h : PtsAt base (.slice A n c) rows W) : PtsS A rows W := fun i p hp => by
  obtain ⟨hi, rfl⟩ := List.getElem?_eq_some_iff.1 hp
  exact h.get2 hi
theorem PtsS.take {A : Option Addr} {rows : List PtR} {W : World} (h : PtsS A rows W) (k : Nat) : PtsS A (rows.take k) W := fun i p hp => h i p (by
  rw [List.getElem?_take] at hp
  split at hp
  · exact hp
  · cases hp)
/-- Sets that the reference prints. -/
def SetsOk (rows : List PtR) : Prop := ∀ p ∈ rows, p.set.length ≤ 1000 ∧ ∀ x ∈ p.set, x.1.size ≤ 9223372036854775807
def fI : Option Nat → Int
  | none => -1
  | some i => i
theorem idx_hit {ks : List (List UInt8)} {t : List UInt8} {i : Nat} (h : idxG (ks.take i) t = none) (h2 : ks[i]? = some t) : idxG ks t = some i := by
  obtain ⟨hi, e⟩ := List.getElem?_eq_some_iff.1 h2
  cases e2 : idxG ks t with
  | none => rw [idxG_none] at e2; exact absurd (by rw [← e]; exact List.getElem_mem _) e2
  | some j =>
    obtain ⟨h3, h4⟩ := idxG_some e2
    rcases Nat.lt_trichotomy j i with h5 | h5 | h5
    · rw [idxG_none] at h
      refine absurd ?_ h
      exact List.mem_of_getElem? (i := j) (by rw [List.getElem?_take, if_pos h5]; exact h4)
    · rw [h5]
    · have h6 : ks = ks.take (i + 1) ++ ks.drop (i + 1) := (List.take_append_drop _ _).symm
      have h7 : idxG (ks.take (i + 1)) t = some i := by
        rw [List.take_succ_eq_append_getElem hi, idxG_append, h]
        simp only [e, if_true]
        rw [List.length_take]; congr 1; omega
      have h8 : ∀ (l m : List (List UInt8)) (k : Nat), idxG l t = some k → idxG (l ++ m) t = some k := by
        intro l
        induction l with
        | nil => intro m k h; cases h
        | cons x l ih =>
          intro m k h
          rw [List.cons_append]
          unfold idxG at h ⊢
          by_cases hx : x = t
          · rw [if_pos hx] at h ⊢; exact h
          · rw [if_neg hx] at h ⊢
            cases e3 : idxG l t with
            | none => rw [e3] at h; cases h
            | some q => rw [e3] at h; rw [ih m q e3]; exact h
      have h9 := h8 _ (ks.drop (i + 1)) _ h7
      rw [← h6, e2] at h9
      exact h9
theorem idx_next {ks : List (List UInt8)} {t u : List UInt8} {i : Nat} (h : idxG (ks.take i) t = none) (h2 : ks[i]? = some u) (hne : u ≠ t) : idxG (ks.take (i + 1)) t = none := by
  obtain ⟨hi, e⟩ := List.getElem?_eq_some_iff.1 h2
  rw [List.take_succ_eq_append_getElem hi, idxG_append, h, e]
  simp [hne]
theorem keysOf_at {rows : List PtR} {i : Nat} {p : PtR} (h : rows[i]? = some p) : (keysOf rows)[i]? = some (keyT p.set) := by unfold keysOf; rw [List.getElem?_map, h]; rfl
theorem txt_eq (a b : List UInt8) : ((⟨a.toArray⟩ : ByteArray).toList == (⟨b.toArray⟩ : ByteArray).toList) = decide (a = b) := by
  rw [ByteArray.toList_eq, ByteArray.toList_eq]; exact Bool.beq_eq_decide_eq _ _
set_option maxHeartbeats 2000000 in
theorem find_r (A : Option Addr) (n c : Nat) (rows : List PtR) (tt : List UInt8) (w : World) (h : PtsS A rows w) (hn : rows.length = n) (hB : n ≤ 1000) (hs : SetsOk rows) :
    Calls Try.prog 46 #[.slice A n c, .string ⟨tt.toArray⟩] w fun e w' => e = .returned (.int .i64 (fI (idxG (keysOf rows) tt))) ∧ Below w.heap.size w w' := by
  have H := Lib.hid (fun (V : World) (hV : Below w.heap.size w V) => h.below hV)
  have HS := Lib.hid hs; have HN := Lib.hid hn
  clear h hs hn
  go_enter Try.func46, Try.ntmps46
  go_wp2_with fail
  go_loopg [9] n (fun g x9 wr => ∃ k : Nat, k + g = n ∧ x9 = .int .i64 k ∧ idxG ((keysOf rows).take k) tt = none ∧ Below w.heap.size w wr)
  case atStart => exact ⟨0, by omega, rfl, rfl, Below.refl _ _⟩
  case round =>
    obtain ⟨k, hkg, rfl, hno, hbel⟩ := hrel
    have HNO := Lib.hid hno; have HB := Lib.hid hbel
    clear hno hbel
    cases gk with
    | zero =>
      obtain rfl : k = n := by omega
      have HE : Hid (idxG (keysOf rows) tt = none) := Lib.hid (by have h := HNO.out; rw [List.take_of_length_le (by unfold keysOf; rw [List.length_map, HN.out]; exact Nat.le_refl _)] at h; exact h)
      go_wp2_with fail
      go_ret
      exact ⟨by rw [HE.out]; rfl, HB.out⟩
    | succ g =>
      have HKG := Lib.hid hkg
      have hlt : k < rows.length := by rw [HN.out]; omega
      obtain ⟨⟨sv, st, vl⟩, hp⟩ : ∃ p, rows[k]? = some p := ⟨_, List.getElem?_eq_getElem hlt⟩
      have HP := Lib.hid hp
      obtain ⟨hpl, hpx⟩ := HS.out _ (List.mem_of_getElem? hp)
      obtain ⟨ad, rfl, c0, c1, hhl⟩ := H.out wr HB.out k _ hp
      simp only at c0 c1 hhl hpl hpx
      have HH := Lib.hid hhl
      obtain ⟨SA, sc, rfl, hse⟩ := hhl
      have hhl := HH.out
      clear hse HH
      have hkn : k < n := by omega
      have hal := World.block_lt_of_cell? wr _ c0
      have hb2 := (Below.refl wr.heap.size wr).alloc (Nat.le_refl _) (.cells #[(.slice SA st.length sc), .int .i64 vl] 28)
      have HKC := Lib.hid (key_r (hhl.below hb2) hpl hpx)
      have HB2 := Lib.hid (HB.out.trans (hb2.mono HB.out.size))
      clear hp hpl hpx hhl hb2 hlt
      generalize st.length = sn at *
      go_upto_region 4 with fail
      go_wp2_with fail
      (with_reducible refine HKC.out.mono ?_); rintro e w2 ⟨rfl, hb⟩
      have HB3 := Lib.hid (HB2.out.trans (hb.mono HB2.out.size))
      clear hb HKC
      by_cases hk : keyT st = tt
      · have HE := Lib.hid (idx_hit HNO.out ((keysOf_at HP.out).trans (congrArg some hk)))
        have hd : (keyT st == tt) = true := by rw [hk]; simp
        clear hk
        go_wp2_with fail
        go_ret
        exact ⟨by rw [HE.out]; rfl, HB3.out⟩
      · have HE := Lib.hid (idx_next HNO.out (keysOf_at HP.out) hk)
        have hd : (keyT st == tt) = false := by rw [beq_eq_false_iff_ne]; exact hk
        clear hk
        go_wp2_with fail
        go_roundg g
        case measure => omega
        case rel => exact ⟨k + 1, by have := HKG.out; omega, by first | rfl | go_num, HE.out, HB3.out⟩
theorem twice_next {ks : List (List UInt8)} {t : List UInt8} {k : Nat} (h : (ks.take k).Nodup) (h2 : ks[k]? = some t) : (idxG (ks.take k) t = none → (ks.take (k + 1)).Nodup) ∧ (∀ i, idxG (ks.take k) t = some i → twiceF ks = true) := by
  obtain ⟨hi, e⟩ := List.getElem?_eq_some_iff.1 h2
  refine ⟨fun h3 => ?_, fun i h3 => ?_⟩
  · rw [idxG_none] at h3
    rw [List.take_succ_eq_append_getElem hi, e, List.nodup_append]
    exact ⟨h, by simp, fun a ha b hb => by rw [List.mem_singleton] at hb; subst hb; intro e2; subst e2; exact h3 ha⟩
  · cases e2 : twiceF ks with
    | true => rfl
    | false =>
      rw [twice_iff] at e2
      obtain ⟨h4, h5⟩ := idxG_some h3
      rw [List.length_take] at h4
      rw [List.getElem?_take, if_pos (by omega)] at h5
      have h6 := (List.getElem?_inj (by omega) e2).1 (h5.trans h2.symm)
      omega
set_option maxHeartbeats 2000000 in
theorem twice_r (A : Option Addr) (n c : Nat) (rows : List PtR) (w : World) (h : PtsS A rows w) (hn : rows.length = n) (hB : n ≤ 1000) (hc : n ≤ c) (hs : SetsOk rows) :
    Calls Try.prog 44 #[.slice A n c] w fun e w' => e = .returned (.bool (twiceF (keysOf rows))) ∧ Below w.heap.size w w' := by
  have H := Lib.hid (fun (V : World) (hV : Below w.heap.size w V) => h.below hV)
  have HS := Lib.hid hs; have HN := Lib.hid hn
  clear h hs hn
  go_enter Try.func44, Try.ntmps44
  go_wp2_with fail
  go_loopg [7] n (fun g x7 wr => ∃ k : Nat, k + g = n ∧ x7 = .int .i64 k ∧ ((keysOf rows).take k).Nodup ∧ Below w.heap.size w wr)
  case atStart => exact ⟨0, by omega, rfl, by simp, Below.refl _ _⟩
  case round =>
    obtain ⟨k, hkg, rfl, hno, hbel⟩ := hrel
    have HNO := Lib.hid hno; have HB := Lib.hid hbel
    clear hno hbel
    cases gk with
    | zero =>
      obtain rfl : k = n := by omega
      have HE : Hid (twiceF (keysOf rows) = false) := Lib.hid (by rw [twice_iff]; have h := HNO.out; rw [List.take_of_length_le (by unfold keysOf; rw [List.length_map, HN.out]; exact Nat.le_refl _)] at h; exact h)
      go_wp2_with fail
      go_ret
      exact ⟨by rw [HE.out]; rfl, HB.out⟩
    | succ g =>
      have HKG := Lib.hid hkg
      have hlt : k < rows.length := by rw [HN.out]; omega
      obtain ⟨⟨sv, st, vl⟩, hp⟩ : ∃ p, rows[k]? = some p := ⟨_, List.getElem?_eq_getElem hlt⟩
      have HP := Lib.hid hp
      obtain ⟨hpl, hpx⟩ := HS.out _ (List.mem_of_getElem? hp)
      obtain ⟨ad, rfl, c0, c1, hhl⟩ := H.out wr HB.out k _ hp
      simp only at c0 c1 hhl hpl hpx
      have HH := Lib.hid hhl
      obtain ⟨SA, sc, rfl, hse⟩ := hhl
      have hhl := HH.out
      clear hse HH
      have hkn : k < n := by omega
      have hkc : k ≤ c := by omega
      have hal := World.block_lt_of_cell? wr _ c0
      have hb2 := (Below.refl wr.heap.size wr).alloc (Nat.le_refl _) (.cells #[(.slice SA st.length sc), .int .i64 vl] 28)
      have HKC := Lib.hid (fun (V : World) (hV : HasL V (.slice SA st.length sc) st) => key_r hV hpl hpx)
      have HH2 := Lib.hid (hhl.below hb2)
      have HB2 := Lib.hid (HB.out.trans (hb2.mono HB.out.size))
      have HSK : Hid (SetsOk (rows.take k)) := Lib.hid (fun p hp => HS.out p (List.mem_of_mem_take hp))
      have HKK : Hid (keysOf (rows.take k) = (keysOf rows).take k) := Lib.hid (by unfold keysOf; rw [List.map_take])
      have HKL : Hid ((rows.take k).length = k) := Lib.hid (by rw [List.length_take]; omega)
      have HFC := Lib.hid (fun (V : World) (hV : Below w.heap.size w V) => find_r (some ad) k c (rows.take k) (keyT st) V ((H.out V hV).take k) HKL.out (by omega) HSK.out)
      rw [HKK.out] at HFC
      have HTN := Lib.hid (twice_next HNO.out (keysOf_at HP.out))
      obtain ⟨o, ho⟩ : ∃ o, idxG ((keysOf rows).take k) (keyT st) = o := ⟨_, rfl⟩
      rw [ho] at HFC
      have HO := Lib.hid ho
      obtain ⟨fv, hfv⟩ : ∃ v, fI o = v := ⟨_, rfl⟩
      rw [hfv] at HFC
      obtain ⟨fb, hfb⟩ : ∃ b, decide (0 ≤ fv) = b := ⟨_, rfl⟩
      have HFV := Lib.hid hfv; have HFB := Lib.hid hfb
      have HBK := Lib.hid (Blk.mk (heap_alloc_new wr (.cells #[.slice SA st.length sc, .int .i64 vl] 28)) : Blk _ wr.heap.size 28 [.slice SA st.length sc, .int .i64 vl])
      have hkn2 : (k : Int) ≤ c := by omega
      have hkc2 : (0 : Int) ≤ k := by omega
      clear hp hpl hpx hhl hb2 hlt ho hfv hal
      generalize st.length = sn at *
      go_upto_region 4 with fail
      refine wp_region_facts (R := fun a b => Below a.heap.size a b) (G := (fun W => Below w.heap.size w W ∧ Blk W wr.heap.size 28 [.slice SA sn sc, .int .i64 vl] ∧ HasL W (.slice SA sn sc) st)) (V := fun i' u' W => match i' with | 0 => u' = .slice (some ad) n c | 1 => u' = .int .i64 k | 2 => u' = .slice (some ad) k c | 3 => u' = .pointer (some ⟨wr.heap.size, 0, none⟩) | 4 => u' = .slice SA sn sc | 5 => u' = .string ⟨(keyT st).toArray⟩ | 6 => u' = .int .i64 fv | 7 => u' = .bool fb | _ => True) (by kernel_rfl) (fun w => Below.refl _ _) (fun a b c h1 h2 => h1.trans (h2.mono h1.size)) (by kernel_rfl) (by kernel_rfl) ?hG ⟨?o0, ?o1, ?o2, ?o3, ?o4, ?o5, ?o6, ?o7, trivial⟩ ?hend
      case o0 =>
        intro a w hfr hG hd
        refine ⟨fun hw => ?_, fun hw => absurd hw (by simp [Region.wanted])⟩
        have s0 : a.tmps.getD 0 undef = .slice (some ad) n c := hfr.at 0 (by kernel_rfl)
        refine op_yields (.slice (some ad) n c) ?_ ?_ ?_
        · simp only [execOp, resolve, List.map_toArray, List.map_cons, List.map_nil, Act.eval, s0]; simp [go_sem, -Array.getD_eq_getD_getElem?, s0]
        · exact Below.refl _ _
        · exact (fun _ _ => rfl)
      case o1 =>
        intro a w hfr hG hd
        refine ⟨fun hw => ?_, fun hw => absurd hw (by simp [Region.wanted])⟩
        have s3 : a.tmps.getD 3 undef = .int .i64 k := hfr.at 3 (by kernel_rfl)
        refine op_yields (.int .i64 k) ?_ ?_ ?_
        · simp only [execOp, resolve, List.map_toArray, List.map_cons, List.map_nil, Act.eval, s3]; simp [go_sem, -Array.getD_eq_getD_getElem?, s3]
        · exact Below.refl _ _
        · exact (fun _ _ => rfl)
      case o2 =>
        intro a w hfr hG hd
        obtain ⟨d0, d1, _⟩ := hd
        refine ⟨fun hw => ?_, fun hw => absurd hw (by simp [Region.wanted])⟩
        have s12 : a.tmps.getD 12 undef = .slice (some ad) n c := (d0 rfl).now
        have s13 : a.tmps.getD 13 undef = .int .i64 k := (d1 rfl).now
        refine op_yields (.slice (some ad) k c) ?_ ?_ ?_
        · simp only [execOp, resolve, List.map_toArray, List.map_cons, List.map_nil, Act.eval, s12, s13]; simp [go_sem, -Array.getD_eq_getD_getElem?, s12, s13, hkn, hkc, hkn2, hkc2]
        · exact Below.refl _ _
        · exact (fun _ _ => rfl)
      case o3 =>
        intro a w hfr hG hd
        refine ⟨fun hw => ?_, fun hw => absurd hw (by simp [Region.wanted])⟩
        have s4 : a.tmps.getD 4 undef = .pointer (some ⟨wr.heap.size, 0, none⟩) := hfr.at 4 (by kernel_rfl)
        refine op_yields (.pointer (some ⟨wr.heap.size, 0, none⟩)) ?_ ?_ ?_
        · simp only [execOp, resolve, List.map_toArray, List.map_cons, List.map_nil, Act.eval, s4]; simp [go_sem, -Array.getD_eq_getD_getElem?, s4]
        · exact Below.refl _ _
        · exact (fun _ _ => rfl)
      case o4 =>
        intro a w hfr hG hd
        obtain ⟨d0, _⟩ := hd
        refine ⟨fun hw => ?_, fun hw => absurd hw (by simp [Region.wanted])⟩
        have s15 : a.tmps.getD 15 undef = .pointer (some ⟨wr.heap.size, 0, none⟩) := (d0 rfl).now
        have z0 := hG.now.2.1.cell 0; simp only [List.getElem?_cons_zero] at z0
        refine op_yields (.slice SA sn sc) ?_ ?_ ?_
        · simp only [execOp, resolve, List.map_toArray, List.map_cons, List.map_nil, Act.eval, s15]; simp [go_sem, -Array.getD_eq_getD_getElem?, s15, z0]
        · exact Below.refl _ _
        · exact (fun _ _ => rfl)
      case o5 =>
        intro a w hfr hG hd
        obtain ⟨d0, _⟩ := hd
        refine ⟨fun hw => ?_, fun hw => absurd hw (by simp [Region.wanted])⟩
        have s16 : a.tmps.getD 16 undef = .slice SA sn sc := (d0 rfl).now
        refine op_calls2 ((HKC.out w hG.now.2.2).mono fun e' w' hh => ⟨_, hh.1, hh.2, (fun _ _ => rfl)⟩) ?_
        simp only [execOp, resolve, List.map_toArray, List.map_cons, List.map_nil, Act.eval, s16]; simp [go_sem, -Array.getD_eq_getD_getElem?, s16]
      case o6 =>
        intro a w hfr hG hd
        obtain ⟨d0, d1, d2, _⟩ := hd
        refine ⟨fun hw => ?_, fun hw => absurd hw (by simp [Region.wanted])⟩
        have s14 : a.tmps.getD 14 undef = .slice (some ad) k c := (d0 rfl).now
        have s17 : a.tmps.getD 17 undef = .string ⟨(keyT st).toArray⟩ := (d1 rfl).now
        refine op_calls2 ((HFC.out w hG.now.1).mono fun e' w' hh => ⟨_, hh.1, hh.2, (fun _ _ => rfl)⟩) ?_
        simp only [execOp, resolve, List.map_toArray, List.map_cons, List.map_nil, Act.eval, s14, s17]; simp [go_sem, -Array.getD_eq_getD_getElem?, s14, s17]
      case o7 =>
        intro a w hfr hG hd
        obtain ⟨d0, _⟩ := hd
        refine ⟨fun hw => ?_, fun hw => absurd hw (by simp [Region.wanted])⟩
        have s18 : a.tmps.getD 18 undef = .int .i64 fv := (d0 rfl).now
        refine op_yields (.bool fb) ?_ ?_ ?_
        · simp only [execOp, resolve, List.map_toArray, List.map_cons, List.map_nil, Act.eval, s18]; simp [go_sem, -Array.getD_eq_getD_getElem?, s18, hfb]
        · exact Below.refl _ _
        · exact (fun _ _ => rfl)
      case hG => exact fun w' hb => ⟨HB2.out.trans ((((Below.refl _ _).drew).trans (hb.mono (by simp))).mono HB2.out.size), HBK.out.below (((Below.refl _ _).drew).trans (hb.mono (by simp))) HBK.out.lt, HH2.out.below (((Below.refl _ _).drew).trans (hb.mono (by simp)))⟩
      case hend =>
        intro vs wq hG hv
        have key : vs 7 = .bool fb := by
          obtain ⟨_, _, _, _, _, _, _, h7, _⟩ := hv
          exact h7.now
        have HB3 := Lib.hid hG.now.1
        clear hv hG HKC HFC HBK HH2 c0 c1 hfb
        simp only [putAll, Act.put, key]
        clear key
        cases fb with
        | true =>
          have HE : Hid (twiceF (keysOf rows) = true) := Lib.hid (by
            cases o with
            | none => have h := HFB.out; rw [← HFV.out] at h; cases h
            | some i => exact HTN.out.2 i HO.out)
          go_simp
          go_wp2_with fail
          go_ret
          exact ⟨by rw [HE.out]; rfl, HB3.out⟩
        | false =>
          have HE : Hid (((keysOf rows).take (k + 1)).Nodup) := Lib.hid (by
            cases o with
            | none => exact HTN.out.1 HO.out
            | some i => have h := HFB.out; rw [← HFV.out] at h; exact absurd (show (0 : Int) ≤ fI (some i) from by show (0 : Int) ≤ (i : Int); omega) (of_decide_eq_false h))
          go_simp
          go_wp2_with fail
          go_roundg g
          case measure => omega
          case rel => exact ⟨k + 1, by have := HKG.out; omega, by first | rfl | go_num, HE.out, HB3.out⟩
end Go.Proofs.Ytbndmmfpoljeaaa
