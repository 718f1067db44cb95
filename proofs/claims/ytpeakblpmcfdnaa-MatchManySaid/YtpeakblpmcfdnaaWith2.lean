/- lset.With, wherever the label comes; lset.Get. -/
import Derived.Test.YtpeakblpmcfdnaaInsert
namespace Go.Proofs.Ytpeakblpmcfdnaa
open Go.ChangeShapes Go.WideShapes Go.ChangeAt Go.RowKit
set_option linter.unusedVariables false
set_option maxRecDepth 100000
theorem own_form2 {w : World} {base : Nat} {e : TypeId} {n c s : Nat} {A : Option Addr} {xs : List Value} (h : w.ownsRow base e s (.slice A n c) n xs) (hn : 0 < n) (hs : 0 < s) : ∃ g cur, A = some ⟨g, 0, none⟩ ∧ base ≤ g ∧ Blk w g e cur ∧ n ≤ c ∧ c ≤ maxLen ∧ cur.length = c * s ∧ cur.take (n * s) = xs := by
  rcases h.2 with ⟨h1, h2⟩ | ⟨g, cap, cur, hv, hb, hg, hnc, hcm, hcs, ht⟩
  · injection h1 with _ h1; omega
  · injection hv with h1 h2 h3
    subst h3
    exact ⟨g, cur.toList, h1, hb, Blk.mk (by simpa using hg), hnc, hcm, by simpa using hcs, ht⟩
theorem insert_any (A : Option Addr) (n c i xb base : Nat) (l : List (ByteArray × ByteArray)) (x : ByteArray × ByteArray) (w : World) (h : w.ownsRow base 26 2 (.slice A n c) n (lbls l)) (hX : Blk w xb 26 (lbls [x])) (hne : (Value.slice A n c).ownBlock ≠ some xb)
    (hi : i ≤ n) (hn : n ≤ 100000) (hb : base ≤ w.heap.size) :
    Calls Try.prog 37 #[.slice A n c, .int .i64 i, .slice (some ⟨xb, 0, none⟩) 1 1] w (AppAns base 26 2 (n + 1) (lbls (l.take i ++ x :: l.drop i)) (.slice A n c) w) := by
  have hln : l.length = n := by have := h.1; rw [lbls_length] at this; omega
  rcases Nat.lt_or_ge i n with hlt | hge
  · obtain ⟨g, cur, rfl, hbg, hK, hnc, hcM, hcl, htk⟩ := own_form2 h (by omega) (by omega)
    have hxg : xb ≠ g := fun e => hne (by rw [e]; rfl)
    have hnl : (l.take i ++ x :: l.drop i).length = n + 1 := by rw [List.length_append, List.length_cons, List.length_take, List.length_drop]; omega
    rcases Nat.lt_or_ge n c with hr | hr
    · refine (insert_room g n c i xb cur l x w hK hcl htk hlt hr (by unfold maxLen at hcM; omega) (by omega) hX hxg).mono ?_
      rintro e w' ⟨rfl, cur', hK', hl', ht', hg'⟩
      have ho := hK'.owns (base := base) (size := 2) (n := n + 1) (cap := c) hbg (by omega) hcM hl'
      rw [ht'] at ho
      exact appAns ho hg' (.inl rfl) rfl
    · obtain rfl : c = n := by omega
      refine (insert_grow g c i xb cur l x w hK hcl htk hlt (by omega) hX).mono ?_
      rintro e w' ⟨G, rfl, hG1, hG2, cur', hK', hl', ht', hg'⟩
      have ho := hK'.owns (base := base) (size := 2) (n := c + 1) (cap := G) hb hG1 (by unfold maxLen; omega) hl'
      rw [ht'] at ho
      exact appAns ho ⟨hg'.os, hg'.tape, hg'.output, hg'.size, fun k hk _ => hg'.block k hk (by simp)⟩ (.inr fun k hk => by simp [Value.ownBlock] at hk; omega) rfl
  · obtain rfl : i = n := by omega
    have e : l.take i ++ x :: l.drop i = l ++ [x] := by rw [List.take_of_length_le (by omega), List.drop_of_length_le (by omega)]
    rw [e]
    exact insert_end A _ i c _ base l x w h (hX.sees (size := 2) (n := 1) rfl (List.prefix_refl _)) (by omega) hb
/-- What With makes. -/
def keptL (l : List (ByteArray × ByteArray)) (name : ByteArray) : List (ByteArray × ByteArray) := l.filter fun x => !hasS [name] x.1
def lessB (name : ByteArray) (y : ByteArray × ByteArray) : Bool := Op.bytesLess y.1.toList name.toList
def putL (k : List (ByteArray × ByteArray)) (x : ByteArray × ByteArray) : List (ByteArray × ByteArray) := k.takeWhile (lessB x.1) ++ x :: k.dropWhile (lessB x.1)
def withL (l : List (ByteArray × ByteArray)) (name value : ByteArray) : List (ByteArray × ByteArray) := if value.toList = [] then keptL l name else putL (keptL l name) (name, value)
theorem takeWhile_at {p : ByteArray × ByteArray → Bool} : ∀ {k : List (ByteArray × ByteArray)} {i : Nat}, (∀ j (h : j < k.length), j < i → p k[j] = true) → (∀ h : i < k.length, p k[i] = false) → i ≤ k.length → k.takeWhile p = k.take i ∧ k.dropWhile p = k.drop i
  | [], i, _, _, hi => by
    have : i = 0 := by simpa using hi
    subst this; simp
  | x :: k, 0, _, h2, _ => by
    have := h2 (by simp)
    simp only [List.getElem_cons_zero] at this
    simp [this]
  | x :: k, i + 1, h1, h2, hi => by
    have h0 := h1 0 (by simp) (by omega)
    simp only [List.getElem_cons_zero] at h0
    obtain ⟨e1, e2⟩ := takeWhile_at (p := p) (k := k) (i := i) (fun j h hj => by have := h1 (j + 1) (by simp; omega) (by omega); simpa using this) (fun h => by have := h2 (by simp; omega); simpa using this) (by simpa using hi)
    simp [h0, e1, e2]
set_option maxHeartbeats 4000000 in
theorem with_any (A0 : Option Addr) (n c B : Nat) (l : List (ByteArray × ByteArray)) (name value : ByteArray) (w : World) (h : Sees w B 2 A0 n (lbls l)) (hB : B ≤ w.heap.size) (hn : n ≤ 100000) :
    Calls Try.prog 22 #[.slice A0 n c, .string name, .string value] w (OwnAns 26 2 (withL l name value).length (lbls (withL l name value)) w) := by
  have H := Lib.hid h
  have HL := Lib.hid h.lbl_len
  obtain ⟨kept, hk⟩ : ∃ kept, keptL l name = kept := ⟨_, rfl⟩
  have HW : Hid (withL l name value = if value.toList = [] then kept else putL kept (name, value)) := Lib.hid (by rw [withL, hk])
  have hkl : kept.length ≤ n := by rw [← hk, ← HL.out]; exact List.length_filter_le _ _
  have HK : Hid (l.filter (fun x => !hasS [name] x.1) = kept) := Lib.hid hk
  clear h hk
  have HD := Lib.hid (fun W (X : Option Addr) (hW : Sees W B 2 A0 n (lbls l)) (hBW : B ≤ W.heap.size) (hX : Sees W W.heap.size 1 X 1 (strs [name])) => drop_any A0 X n c 1 1 B W.heap.size l [name] W hW hBW hn hX (Nat.le_refl _) (by omega))
  rw [HK.out] at HD
  by_cases hv : value.toList = []
  · have hv1 : value.toList.isEmpty = true := by rw [hv]; rfl
    have hv2 : (!value.toList.isEmpty) = false := by rw [hv1]; rfl
    have HE : Hid (withL l name value = kept) := Lib.hid (by rw [HW.out, if_pos hv])
    clear hv HW
    go_enter Try.func22, Try.ntmps22
    go_wp2_with fail
    refine (HD.out _ _ (H.out.alloc hB _) (by simp; omega) ((Blk.mk (heap_alloc_new w _) : Blk _ w.heap.size 9 [.string name]).sees rfl (List.prefix_refl _))).mono ?_
    rintro e w1 ⟨A1, c1, rfl, hown1, hb1, hc1, hc2⟩
    have HB1 := Lib.hid (((Below.refl w.heap.size w).alloc (Nat.le_refl _) (.cells #[.string name] 9)).trans (hb1.mono (by simp)))
    have HO1 := Lib.hid (own_mono hown1 (base' := w.heap.size) (by simp))
    clear hown1 hb1 HD H
    go_wp2_with fail
    go_ret
    exact ownAns (by rw [HE.out]; exact HO1.out) HB1.out (by rw [HE.out]; rfl) (by rw [HE.out]; exact hc1) hc2
  · have hv1 : value.toList.isEmpty = false := by cases hq : value.toList with | nil => exact absurd hq hv | cons => rfl
    have hv2 : (!value.toList.isEmpty) = true := by rw [hv1]; rfl
    have HE : Hid (withL l name value = putL kept (name, value)) := Lib.hid (by rw [HW.out, if_neg hv])
    clear hv HW
    go_enter Try.func22, Try.ntmps22
    go_wp2_with fail
    refine (HD.out _ _ (H.out.alloc hB _) (by simp; omega) ((Blk.mk (heap_alloc_new w _) : Blk _ w.heap.size 9 [.string name]).sees rfl (List.prefix_refl _))).mono ?_
    rintro e w1 ⟨A1, c1, rfl, hown1, hb1, hc1, hc2⟩
    have HB1 := Lib.hid (((Below.refl w.heap.size w).alloc (Nat.le_refl _) (.cells #[.string name] 9)).trans (hb1.mono (by simp)))
    have HO1 := Lib.hid (own_mono hown1 (base' := w.heap.size) (by simp))
    have hs2 : w.heap.size ≤ w1.heap.size := HB1.out.size
    clear hown1 hb1 HD H
    obtain ⟨m, hm⟩ : ∃ m, kept.length = m := ⟨_, rfl⟩
    rw [hm] at HO1 hc1 hkl ⊢
    have HM := Lib.hid hm
    clear hm
    have HS1 := Lib.hid (Sees.of_own HO1.out)
    go_wp2_with fail
    go_loop [8] (fun x => ∃ k : Nat, k ≤ m ∧ x = .int .i64 k ∧ ∀ j (h : j < kept.length), j < k → lessB name kept[j] = true) (fun x => m - (intOf x).toNat)
    case atStart => exact ⟨0, Nat.zero_le _, rfl, fun j _ hj => absurd hj (by omega)⟩
    case round =>
      obtain ⟨k, hk, rfl, hless⟩ := hrel
      have HLESS := Lib.hid hless
      clear hless
      by_cases hlt : k < m
      · obtain ⟨ad, hkl2, rfl, d0, d1⟩ := HS1.out.lbl hlt
        have z1 : (k : Int) < m := by omega
        cases hl : lessB name kept[k] with
        | true =>
          have t1 : Op.bytesLess (kept[k]).1.toList name.toList = true := hl
          have HLESS2 : Hid (∀ j (h : j < kept.length), j < k + 1 → lessB name kept[j] = true) := Lib.hid (fun j h hj => by
            rcases Nat.lt_or_ge j k with h' | h'
            · exact HLESS.out j h h'
            · obtain rfl : j = k := by omega
              exact hl)
          clear hl
          go_wp2_with fail
          go_round
          case rel => exact ⟨k + 1, by omega, by go_num, HLESS2.out⟩
          case measure => simp [intOf]; omega
        | false =>
          have t1 : Op.bytesLess (kept[k]).1.toList name.toList = false := hl
          have HSTOP : Hid (∀ h : k < kept.length, lessB name kept[k] = false) := Lib.hid (fun _ => hl)
          clear hl
          have hX0 : Blk (w1.alloc (.cells #[.string name, .string value] 26)) w1.heap.size 26 (lbls [(name, value)]) := Blk.mk (heap_alloc_new w1 _)
          have HX := Lib.hid hX0
          have HOA := Lib.hid (HO1.out.alloc (.cells #[.string name, .string value] 26))
          have HBA := Lib.hid (HB1.out.alloc hs2 (.cells #[.string name, .string value] 26))
          have hbx : ∀ g, (Value.slice (some ad) m c1).ownBlock = some g → w.heap.size ≤ g := fun g hg => (HO1.out.lt g hg).1
          have hnx : (Value.slice (some ad) m c1).ownBlock ≠ some w1.heap.size := fun e => by have := (HO1.out.lt _ e).2; omega
          have HBX := Lib.hid hbx; have HNX := Lib.hid hnx
          have HPL := Lib.hid (show withL l name value = kept.take k ++ (name, value) :: kept.drop k by
            obtain ⟨e1, e2⟩ := takeWhile_at (p := lessB name) (k := kept) (i := k) (fun j h hj => HLESS.out j h hj) (fun h => HSTOP.out h) (by rw [HM.out]; exact hk)
            rw [HE.out, putL]
            simp only
            rw [e1, e2])
          have HL3 := Lib.hid (show (withL l name value).length = m + 1 by rw [HPL.out, List.length_append, List.length_cons, List.length_take, List.length_drop, HM.out]; omega)
          clear hX0 hbx hnx HO1 HB1 HS1 HLESS HSTOP HE
          go_wp2_with fail
          (with_reducible refine (insert_any (some ad) m c1 k w1.heap.size w.heap.size kept (name, value) _ HOA.out HX.out HNX.out hk (by omega) (by simp; omega)).mono ?_)
          rintro e w3 ⟨A3, c3, rfl, hown3, hgr3, hwh3, hc3, hc4⟩
          rw [← HPL.out] at hown3
          have HO3 := Lib.hid hown3
          have HB3 := Lib.hid (HBA.out.grown hgr3 (by simp; omega) HBX.out)
          clear hown3 hgr3 hwh3 HOA HBA HX HBX HNX HPL
          go_wp2_with fail
          go_ret
          exact ownAns (by rw [HL3.out]; exact HO3.out) HB3.out (by rw [HL3.out]; rfl) (by rw [HL3.out]; exact hc3) hc4
      · obtain rfl : k = m := by omega
        have z1 : ¬ (k : Int) < k := by omega
        have HSTOP : Hid (∀ h : k < kept.length, lessB name kept[k] = false) := Lib.hid (fun h => absurd h (by rw [HM.out]; omega))
        have hX0 : Blk (w1.alloc (.cells #[.string name, .string value] 26)) w1.heap.size 26 (lbls [(name, value)]) := Blk.mk (heap_alloc_new w1 _)
        have HX := Lib.hid hX0
        have HOA := Lib.hid (HO1.out.alloc (.cells #[.string name, .string value] 26))
        have HBA := Lib.hid (HB1.out.alloc hs2 (.cells #[.string name, .string value] 26))
        have hbx : ∀ g, (Value.slice A1 k c1).ownBlock = some g → w.heap.size ≤ g := fun g hg => (HO1.out.lt g hg).1
        have hnx : (Value.slice A1 k c1).ownBlock ≠ some w1.heap.size := fun e => by have := (HO1.out.lt _ e).2; omega
        have HBX := Lib.hid hbx; have HNX := Lib.hid hnx
        have HPL := Lib.hid (show withL l name value = kept.take k ++ (name, value) :: kept.drop k by
          obtain ⟨e1, e2⟩ := takeWhile_at (p := lessB name) (k := kept) (i := k) (fun j h hj => HLESS.out j h hj) (fun h => HSTOP.out h) (by rw [HM.out]; exact hk)
          rw [HE.out, putL]
          simp only
          rw [e1, e2])
        have HL3 := Lib.hid (show (withL l name value).length = k + 1 by rw [HPL.out, List.length_append, List.length_cons, List.length_take, List.length_drop, HM.out]; omega)
        clear hX0 hbx hnx HO1 HB1 HS1 HLESS HSTOP HE
        go_wp2_with fail
        (with_reducible refine (insert_any A1 k c1 k w1.heap.size w.heap.size kept (name, value) _ HOA.out HX.out HNX.out hk (by omega) (by simp; omega)).mono ?_)
        rintro e w3 ⟨A3, c3, rfl, hown3, hgr3, hwh3, hc3, hc4⟩
        rw [← HPL.out] at hown3
        have HO3 := Lib.hid hown3
        have HB3 := Lib.hid (HBA.out.grown hgr3 (by simp; omega) HBX.out)
        clear hown3 hgr3 hwh3 HOA HBA HX HBX HNX HPL
        go_wp2_with fail
        go_ret
        exact ownAns (by rw [HL3.out]; exact HO3.out) HB3.out (by rw [HL3.out]; rfl) (by rw [HL3.out]; exact hc3) hc4
end Go.Proofs.Ytpeakblpmcfdnaa
