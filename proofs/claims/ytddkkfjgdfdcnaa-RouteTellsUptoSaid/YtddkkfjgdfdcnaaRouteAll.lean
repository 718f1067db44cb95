/- route.All. -/
import Derived.Test.YtddkkfjgdfdcnaaRoute3
import Derived.Test.YtddkkfjgdfdcnaaSortStr
namespace Go.Proofs.Ytddkkfjgdfdcnaa
open Go.ChangeShapes Go.WideShapes Go.ChangeAt Go.RowKit Go.Sort Go.Lib
set_option linter.unusedVariables false
set_option linter.unusedSimpArgs false
set_option maxRecDepth 100000
theorem own_cut {w : World} {base g n k c : Nat} {e : TypeId} {size : Nat} {xs : List Value} (h : w.ownsRow base e size (.slice (some ⟨g, 0, none⟩) n c) n xs) (hk : k ≤ n) : w.ownsRow base e size (.slice (some ⟨g, 0, none⟩) k c) k (xs.take (k * size)) := by
  refine ⟨by rw [List.length_take, h.1]; exact Nat.min_eq_left (Nat.mul_le_mul_right _ hk), ?_⟩
  rcases h.2 with ⟨h1, _⟩ | ⟨g1, cap, cur, hv, hb, hh, hnc, hcm, hs, ht⟩
  · cases h1
  · injection hv with h1 h2 h3
    injection h1 with h1; injection h1 with h1; subst h1; subst h3
    refine .inr ⟨g, c, cur, rfl, hb, hh, by omega, hcm, hs, ?_⟩
    rw [← ht, List.take_take, Nat.min_eq_left (Nat.mul_le_mul_right _ hk)]
theorem compact_own (base : Nat) (A : Option Addr) (n c : Nat) (zs : List (List UInt8)) (w : World) (h : w.ownsRow base 9 1 (.slice A n c) n (zs.map encStr)) (hn : n ≤ 1000000) :
    Calls Try.prog 28 #[.slice A n c] w fun e w' => e = .returned (.slice A (compact zs).length c) ∧ w'.ownsRow base 9 1 (.slice A (compact zs).length c) (compact zs).length ((compact zs).map encStr) ∧ w.grownBy w' (Value.slice A n c).ownBlock := by
  have hl : zs.length = n := by have := h.1; simp at this; omega
  have hcl := compact_length_le zs
  rcases h.2 with ⟨h1, h2⟩ | ⟨g, cap, cur, hv, hb, hh, hnc, hcm, hs, ht⟩
  · injection h1 with h1 _ h3
    subst h1; subst h2; subst h3
    obtain rfl : zs = [] := List.eq_nil_of_length_eq_zero hl
    refine (Try.slices_Compact_string_empty none 0 w).mono ?_
    rintro e w' ⟨rfl, rfl⟩
    exact ⟨rfl, by simpa [compact, compactUpTo] using h, World.grownBy.refl _ _⟩
  · injection hv with h1 h2 h3
    subst h1; subst h3
    have hH : Go.Sort.Holds encStr w g 0 zs.toArray := holds_of_block hh (by rw [hl, ← Nat.mul_one n]; exact ht)
    have h2 := Try.slices_Compact_string g 0 c zs w hH (by omega) (by omega)
    rw [hl] at h2
    refine h2.mono ?_
    rintro e w' ⟨rfl, m, rfl⟩
    have hg0 : ∀ W : World, grow W #[] = W := fun W => by simp [grow]
    have hlt : (compact zs ++ List.replicate (n - (compact zs).length) []).length = zs.length := by rw [List.length_append, List.length_replicate]; omega
    have h3 := ownsRow_sorted (n := m) (os := #[]) (ss := zs) (ts := compact zs ++ List.replicate (n - (compact zs).length) []) hlt hb hh (by omega) hcm hs
    rw [hg0, hl] at h3
    have h4 := own_cut (k := (compact zs).length) h3 (by omega)
    rw [Nat.mul_one, List.map_append, List.take_append_of_le_length (by simp), List.take_of_length_le (by simp)] at h4
    have h5 := grownBy_sorted (w := w) (g := g) (n := m) (os := #[]) (compact zs ++ List.replicate (n - (compact zs).length) []).toArray
    rw [hg0] at h5
    exact ⟨rfl, h4, h5⟩
/-- Whom a set goes to. -/
def toR (d : Nat) (r : RT) (l : List Lbl) : List ByteArray := if rightT d r = true then toF l d r else []
theorem toR_len (d : Nat) (r : RT) (l : List Lbl) : (toR d r l).length ≤ 16 := by
  unfold toR
  split
  · next h =>
    have h1 := toF_len l d r
    unfold rightT at h
    simp only [Bool.and_eq_true, decide_eq_true_eq] at h
    omega
  · simp
def allR (d : Nat) (r : RT) (S : List (List Lbl)) : List ByteArray := S.flatMap (toR d r)
theorem allR_len (d : Nat) (r : RT) (S : List (List Lbl)) : (allR d r S).length ≤ 16 * S.length := by
  unfold allR
  induction S with
  | nil => simp
  | cons x S ih =>
    have := toR_len d r x
    rw [List.flatMap_cons, List.length_append, List.length_cons]; omega
theorem allR_more {d : Nat} {r : RT} {S : List (List Lbl)} {k : Nat} (h : k < S.length) : allR d r (S.take (k + 1)) = allR d r (S.take k) ++ toR d r S[k] := by
  unfold allR
  rw [List.take_succ_eq_append_getElem h, List.flatMap_append]; simp
set_option maxHeartbeats 4000000 in
theorem All_any (d : Nat) (r : RT) (A : Option Addr) (n c : Nat) (rows : List (Value × List Lbl)) (w : World) (h : okAt d r w) (hA : SetsAt w A n rows) (hn : n ≤ 1000) (hc : countF d r ≤ 1000000) :
    Calls Try.prog 16 #[r.val, .slice A n c] w (StrsAns (txs (sortC (bts (allR d r (rows.map Prod.snd))))) w) := by
  obtain ⟨i0, hi0, hz0, hz1, hz2⟩ := info_parts Try.infoStr
  obtain ⟨A5, c5, A6, c6, hv5, hv6⟩ := okAt_form h
  have hval : r.val = .agg #[.slice A5 r.ms.length c5, .string r.nm, .bool r.goes, .slice A6 r.kids.length c6] := by unfold RT.val; rw [hv5, hv6]
  have HLA := Lib.hid hA.len
  have HT := Lib.hid (((((Kept.start w).add (okAt_stays h)).add hA.stays).alloc (.cells #[.slice A5 r.ms.length c5, .string r.nm, .bool r.goes, .slice A6 r.kids.length c6] 28)).add (Blk.mk (heap_alloc_new w (.cells #[.slice A5 r.ms.length c5, .string r.nm, .bool r.goes, .slice A6 r.kids.length c6] 28)) : Blk _ w.heap.size 28 [.slice A5 r.ms.length c5, .string r.nm, .bool r.goes, .slice A6 r.kids.length c6]).stays)
  have HTO : Hid (∀ V v l, okAt d r V → HasL V v l → Calls Try.prog 9 #[r.val, v] V (StrsAns (toR d r l) V)) := Lib.hid (fun V v l h1 h2 => To_any v l d r V h1 h2 hc)
  rw [hval] at HTO
  rw [hval]
  obtain ⟨bx, hbx⟩ : ∃ b, w.heap.size = b := ⟨_, rfl⟩
  obtain ⟨W1, hW1⟩ : ∃ W, w.alloc (.cells #[.slice A5 r.ms.length c5, .string r.nm, .bool r.goes, .slice A6 r.kids.length c6] 28) = W := ⟨_, rfl⟩
  rw [hW1, hbx] at HT
  have hsz := HT.out.size
  clear hv5 hv6 hval h hA
  generalize hlm : r.ms.length = lm at *
  generalize hlk : r.kids.length = lk at *
  generalize hqn : r.nm = qn at *
  generalize hqg : r.goes = qg at *
  clear hlm hlk hqn hqg
  obtain ⟨RES, hRES⟩ : ∃ R, txs (sortC (bts (allR d r (rows.map Prod.snd)))) = R := ⟨_, rfl⟩
  rw [hRES]
  have HRES := Lib.hid hRES
  clear hRES
  go_enter Try.func16, Try.ntmps16
  go_wp2_with fail
  try rw [hW1]
  clear hW1 hbx
  go_loopg [5, 10] n (fun g x5 x10 wr => ∃ (k : Nat) (X : Option Addr) (cx : Nat) (L : List ByteArray), k + g = n ∧ x10 = .int .i64 k ∧ x5 = .slice X L.length cx ∧ wr.ownsRow W1.heap.size 9 1 (.slice X L.length cx) L.length (strs L) ∧ Below W1.heap.size W1 wr ∧ L = allR d r ((rows.map Prod.snd).take k))
  case atStart => exact ⟨0, none, 0, [], by omega, rfl, rfl, by simpa [strs] using World.ownsRow_nil _ _ 9 1, Below.refl _ _, by simp [allR]⟩
  case round =>
    obtain ⟨k, X, cx, L, hkg, rfl, rfl, hown, hbel, hL⟩ := hrel
    have HO := Lib.hid hown; have HB := Lib.hid hbel; have HL := Lib.hid hL
    have hlen : L.length ≤ 16000 := by
      have h1 := allR_len d r ((rows.map Prod.snd).take k)
      rw [← hL, List.length_take] at h1
      omega
    clear hown hbel hL
    cases gk with
    | zero =>
      obtain rfl : k = n := by omega
      have HL2 := Lib.hid (show L = allR d r (rows.map Prod.snd) by rw [HL.out, List.take_of_length_le (by rw [List.length_map, HLA.out]; exact Nat.le_refl _)])
      have HZ := Lib.hid (HT.out.bel.trans (HB.out.mono hsz))
      have HSO := Lib.hid (sort_own W1.heap.size X L.length cx L wr HO.out (by omega))
      have HOL := Lib.hid (fun g hg => (HO.out.lt g hg).1)
      clear HL HO HB
      go_wp2_with fail
      (with_reducible refine HSO.out.mono ?_); rintro e w5 ⟨rfl, ho5, hg5⟩
      have HC := Lib.hid (compact_own W1.heap.size X L.length cx _ w5 ho5 (by omega))
      have HZ5 := Lib.hid (HZ.out.grown hg5 HZ.out.size (fun g hg => Nat.le_trans hsz (HOL.out g hg)))
      clear ho5 hg5 HZ HSO
      have HRE := Lib.hid (show txs (compact ((bts L).mergeSort fun x y => decide (x ≤ y))) = RES by rw [← HRES.out, HL2.out]; rfl)
      generalize (bts L).mergeSort (fun x y => decide (x ≤ y)) = zs at *
      go_wp2_with fail
      (with_reducible refine HC.out.mono ?_); rintro e w6 ⟨rfl, ho6, hg6⟩
      have HZ6 := Lib.hid (HZ5.out.grown hg6 HZ5.out.size (fun g hg => Nat.le_trans hsz (HOL.out g hg)))
      rw [enc_strs, HRE.out] at ho6
      have hrl : (compact zs).length = RES.length := by rw [← HRE.out]; simp [txs]
      rw [hrl] at ho6
      rw [hrl]
      have HO6 := Lib.hid (own_mono ho6 hsz)
      obtain ⟨X', cx', j1, j2, j3⟩ := own_slice ho6
      injection j1 with j1 _ j4; subst j1; subst j4
      clear ho6 hg6 hrl HRE
      go_wp2_with fail
      go_ret
      exact ownAns HO6.out HZ6.out rfl j2 j3
    | succ g =>
      have hlt : k < n := by omega
      have hkl : k < (rows.map Prod.snd).length := by rw [List.length_map, HLA.out]; exact hlt
      have HTR := Lib.hid (HT.out.below HB.out)
      obtain ⟨ad, hkr, hAe, e0⟩ := HTR.out.p1.get hlt
      subst hAe
      have hal := World.block_lt_of_cell? wr _ e0
      have hm := HTR.out.p1.each rows[k] (List.getElem_mem _)
      have HN := Lib.hid (show L ++ toR d r rows[k].2 = allR d r ((rows.map Prod.snd).take (k + 1)) by rw [HL.out, allR_more hkl]; simp)
      have htl := toR_len d r rows[k].2
      generalize rows[k] = p at *
      obtain ⟨v, l⟩ := p
      simp only at e0 hm HN htl
      obtain ⟨A0, c0, rfl⟩ := hm.form
      have b0 := HTR.out.p0.cell 0
      have b1 := HTR.out.p0.cell 1
      have b2 := HTR.out.p0.cell 2
      have b3 := HTR.out.p0.cell 3
      simp only [List.getElem?_cons_zero, List.getElem?_cons_succ] at b0 b1 b2 b3
      have HCA := Lib.hid (HTO.out wr (.slice A0 l.length c0) l HTR.out.p2 hm)
      generalize toR d r l = TQ at *
      clear hm HTR HL
      go_wp2_with fail
      (with_reducible refine HCA.out.mono ?_); rintro e wz ⟨A9, c9, rfl, hoz, hbz, hcz1, hcz2⟩
      have HOZ := Lib.hid (own_below HO.out hbz (Nat.le_refl _))
      have HBZ := Lib.hid (HB.out.trans (hbz.mono HB.out.size))
      have HSZ := Lib.hid (Sees.of_own hoz)
      clear hoz hbz HO HB b0 b1 b2 b3 HCA
      go_wp2_with (at_builtin; refine wpList_append_at rfl (.tmp 14) (.tmp 17) 33 rfl W1.heap.size 9 i0 (.string ⟨#[]⟩) 1 16 Try.underlying33 hi0 hz0 hz1 hz2 rfl (by decide) (.slice X L.length cx) L.length (strs L) rfl HOZ.out _ A9 TQ.length c9 (strs TQ) rfl HSZ.out (strs_one _) (by unfold maxLen; omega) (by omega) HBZ.out.size ?_)
      intro v3 w3 hown3 hgr3 hwh3
      obtain ⟨A3, c3, rfl, hc3, hc4⟩ := own_slice hown3
      have HB3 := Lib.hid (HBZ.out.grown hgr3 HBZ.out.size (fun g hg => (HOZ.out.lt g hg).1))
      have HO3 := Lib.hid (show w3.ownsRow W1.heap.size 9 1 (.slice A3 (L ++ TQ).length c3) (L ++ TQ).length (strs (L ++ TQ)) by rw [List.length_append, strs_append]; exact hown3)
      have HLA2 := Lib.hid (show L.length + TQ.length = (L ++ TQ).length by rw [List.length_append])
      clear hown3 hgr3 hwh3 HOZ HBZ HSZ
      generalize L ++ TQ = L2 at *
      go_wp2_with fail
      go_roundg g
      case measure => omega
      case rel => exact ⟨k + 1, A3, c3, L2, by omega, by go_num, by rw [HLA2.out], HO3.out, HB3.out, HN.out⟩
end Go.Proofs.Ytddkkfjgdfdcnaa
