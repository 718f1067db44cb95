/- Package disk: Size, Firm, Off, Read, keep, Sync, Back, Boot. -/
import Derived.Test.YtccajejeanbcmaaDisk
namespace Go.Proofs.Ytccajejeanbcmaa
open Go.ChangeShapes Go.WideShapes Go.ChangeAt Go.RowKit
set_option linter.unusedVariables false
set_option maxRecDepth 100000
theorem size_any (d : Dk) (g : Nat) (v : Value) (w : World) (h : d.at w g v) :
    Calls Try.prog 11 #[.pointer (some ⟨g, 0, none⟩)] w fun e w' => e = .returned (.int .i64 d.bs.length) ∧ w = w' := by
  obtain ⟨A, c, rfl, hnc, hcm⟩ := own_slice h.2
  obtain ⟨h0, h1, h2, h3, h4, hfz, hg⟩ := h.cells
  clear h
  go_enter Try.func11, Try.ntmps11
  go_wp2_with fail
  go_ret
  exact ⟨rfl, rfl⟩
theorem firm_any (d : Dk) (g : Nat) (v : Value) (w : World) (h : d.at w g v) :
    Calls Try.prog 16 #[.pointer (some ⟨g, 0, none⟩)] w fun e w' => e = .returned (.int .i64 d.firm) ∧ w = w' := by
  obtain ⟨h0, h1, h2, h3, h4, hfz, hg⟩ := h.cells
  clear h
  go_enter Try.func16, Try.ntmps16
  go_wp2_with fail
  go_ret
  exact ⟨rfl, rfl⟩
theorem off_any (d : Dk) (g : Nat) (v : Value) (w : World) (h : d.at w g v) :
    Calls Try.prog 12 #[.pointer (some ⟨g, 0, none⟩)] w fun e w' => e = .returned (.bool d.off) ∧ w = w' := by
  obtain ⟨h0, h1, h2, h3, h4, hfz, hg⟩ := h.cells
  clear h
  go_enter Try.func12, Try.ntmps12
  go_wp2_with fail
  go_ret
  exact ⟨rfl, rfl⟩
theorem read_on (d : Dk) (g : Nat) (v : Value) (w : World) (h : d.at w g v) (hoff : d.off = false) (hn : d.bs.length ≤ 1000000) :
    Calls Try.prog 15 #[.pointer (some ⟨g, 0, none⟩)] w (OwnAns 5 1 d.bs.length (u8s d.bs) w) := by
  obtain ⟨A, c, rfl, hnc, hcm⟩ := own_slice h.2
  obtain ⟨h0, h1, h2, h3, h4, hfz, hg⟩ := h.cells
  rw [hoff] at h4
  have HS := Lib.hid (Sees.of_own h.2)
  clear h hoff
  go_enter Try.func15, Try.ntmps15
  go_wp2_with fail
  refine (clone_U8 A d.bs.length c d.bs _ w HS.out (Nat.le_refl _) rfl hn).mono ?_
  rintro e w1 ⟨A1, c1, rfl, hown, hbel, hc1, hc2⟩
  have HO := Lib.hid hown; have HB := Lib.hid hbel; clear hown hbel
  go_wp2_with fail
  go_ret
  exact ownAns HO.out HB.out rfl hc1 hc2
theorem read_off (d : Dk) (g : Nat) (v : Value) (w : World) (h : d.at w g v) (hoff : d.off = true) :
    Calls Try.prog 15 #[.pointer (some ⟨g, 0, none⟩)] w fun e w' => e = .returned (.slice none 0 0) ∧ w = w' := by
  obtain ⟨h0, h1, h2, h3, h4, hfz, hg⟩ := h.cells
  rw [hoff] at h4
  clear h hoff
  go_enter Try.func15, Try.ntmps15
  go_wp2_with fail
  go_ret
  exact ⟨rfl, rfl⟩
/-- A disk's bytes but the first n gone. -/
def Dk.keep (d : Dk) (n : Nat) : Dk := ⟨d.bs.take n, min d.firm n, d.room, d.fuse, d.off⟩
theorem keep_all (d : Dk) (g : Nat) (v : Value) (n : Nat) (w : World) (h : d.at w g v) (hn : n ≤ d.bs.length) :
    Calls Try.prog 25 #[.pointer (some ⟨g, 0, none⟩), .int .i64 n] w (DkAns2 (d.keep n) g v w (.tuple #[])) := by
  obtain ⟨A, c, rfl, hnc, hcm⟩ := own_slice h.2
  obtain ⟨h0, h1, h2, h3, h4, hfz, hg⟩ := h.cells
  have hat := (h.cut rfl hn).firm (min d.firm n)
  have HA : Hid ((d.keep n).at ((w.setCell ⟨g, 0, none⟩ (.slice A n c)).setCell ⟨g, 1, none⟩ (.int .i64 (min d.firm n))) g (.slice A n c)) := hat
  have HT := Lib.hid (((Turned.refl g (.slice A d.bs.length c) w).setCell 0 (.slice A n c)).setCell 1 (.int .i64 (min d.firm n)))
  have hncc : n ≤ c := by omega
  clear h hat
  by_cases hf : d.firm ≤ n
  · have hmin : min d.firm (n : Int) = d.firm := by omega
    rw [hmin] at HA HT
    have hlt : ¬ ((n : Int) < d.firm) := by omega
    clear hmin
    generalize d.keep n = d' at *
    go_enter Try.func25, Try.ntmps25
    go_wp2_with fail
    go_end0
    exact dkAns2 rfl HA.out HT.out (.inl (by cases A <;> rfl))
  · have hmin : min d.firm (n : Int) = n := by omega
    rw [hmin] at HA HT
    have hlt : ((n : Int) < d.firm) := by omega
    clear hmin
    generalize d.keep n = d' at *
    go_enter Try.func25, Try.ntmps25
    go_wp2_with fail
    go_end0
    exact dkAns2 rfl HA.out HT.out (.inl (by cases A <;> rfl))
theorem keep_any (d : Dk) (g : Nat) (v : Value) (n : Nat) (w : World) (h : d.at w g v) (hn : n ≤ d.bs.length) :
    Calls Try.prog 25 #[.pointer (some ⟨g, 0, none⟩), .int .i64 n] w (DkAns (d.keep n) g v w (.tuple #[])) :=
  (keep_all d g v n w h hn).mono fun _ _ h => h.less
/-- What is told of a sync, and what it leaves. -/
def Dk.sync (d : Dk) : Int × Dk :=
  if d.off then (9, d) else if d.fuse = -1 then (0, ⟨d.bs, d.bs.length, d.room, d.fuse, d.off⟩) else
  if d.fuse < 1 then (9, ⟨d.bs, d.firm, d.room, 0, true⟩) else (0, ⟨d.bs, d.bs.length, d.room, d.fuse - 1, d.off⟩)
theorem sync_all (d : Dk) (g : Nat) (v : Value) (w : World) (h : d.at w g v) (hd : d.ok) :
    Calls Try.prog 18 #[.pointer (some ⟨g, 0, none⟩)] w (DkAns2 d.sync.2 g v w (.int .i64 d.sync.1)) := by
  obtain ⟨A, c, rfl, hnc, hcm⟩ := own_slice h.2
  obtain ⟨h0, h1, h2, h3, h4, hfz, hg⟩ := h.cells
  have H := Lib.hid h; have HD := Lib.hid hd; clear h hd
  cases hoff : d.off
  · rw [hoff] at h4
    by_cases hf1 : d.fuse = -1
    · have e : d.sync = (0, ⟨d.bs, d.bs.length, d.room, d.fuse, d.off⟩) := by unfold Dk.sync; rw [hoff]; simp [hf1]
      rw [e]
      have HF1 := Lib.hid hf1
      rw [hf1] at h3
      clear e hoff hf1
      go_enter Try.func18, Try.ntmps18
      go_wp2_with fail
      refine (burn_none d g _ _ w H.out HF1.out).mono ?_; rintro e w' ⟨rfl, rfl⟩
      go_wp2_with fail
      go_ret
      exact dkAns2 rfl (H.out.firm _) ((Turned.refl _ _ _).setCell 1 _) (Where.refl _ _)
    · by_cases hf2 : d.fuse < 1
      · have e : d.sync = (9, ⟨d.bs, d.firm, d.room, 0, true⟩) := by unfold Dk.sync; rw [hoff]; simp [hf1, hf2]
        rw [e]
        have HF1 := Lib.hid hf1; have HF2 := Lib.hid hf2
        clear e hoff hf1 hf2
        go_enter Try.func18, Try.ntmps18
        go_wp2_with fail
        refine (burn_over d g _ 1 w H.out HF1.out HF2.out).mono ?_; rintro e w' ⟨rfl, rfl⟩
        go_wp2_with fail
        go_ret
        exact dkAns2 rfl ((H.out.fuse 0).off true) (((Turned.refl _ _ _).setCell 3 _).setCell 4 _) (Where.refl _ _)
      · have e : d.sync = (0, ⟨d.bs, d.bs.length, d.room, d.fuse - 1, d.off⟩) := by unfold Dk.sync; rw [hoff]; simp [hf1, hf2]
        rw [e]
        have HF1 := Lib.hid hf1; have HF2 := Lib.hid hf2
        clear e hoff hf1 hf2
        go_enter Try.func18, Try.ntmps18
        go_wp2_with fail
        refine (burn_ok d g _ 1 w H.out HF1.out HD.out.fuse0 HD.out.fuse (by have := HF2.out; omega) (by omega)).mono ?_; rintro e w' ⟨rfl, rfl⟩
        have HA := Lib.hid ((H.out.fuse (d.fuse - 1)).firm d.bs.length)
        go_wp2_with fail
        go_ret
        exact dkAns2 rfl HA.out (((Turned.refl _ _ _).setCell 3 _).setCell 1 _) (Where.refl _ _)
  · have e : d.sync = (9, d) := by unfold Dk.sync; rw [hoff]; rfl
    rw [e]; rw [hoff] at h4
    clear e hoff
    go_enter Try.func18, Try.ntmps18
    go_wp2_with fail
    go_ret
    exact dkAns2 rfl H.out (Turned.refl _ _ _) (Where.refl _ _)
theorem sync_any (d : Dk) (g : Nat) (v : Value) (w : World) (h : d.at w g v) (hd : d.ok) :
    Calls Try.prog 18 #[.pointer (some ⟨g, 0, none⟩)] w (DkAns d.sync.2 g v w (.int .i64 d.sync.1)) :=
  (sync_all d g v w h hd).mono fun _ _ h => h.less
/-- What is told of a cut, and what it leaves. -/
def Dk.back (d : Dk) (n : Int) : Int × Dk :=
  if d.off then (9, d) else if n < 0 ∨ (d.bs.length : Int) < n then (1, d) else if d.fuse = -1 then (0, d.keep n.toNat) else
  if d.fuse < 1 then (9, ⟨d.bs, d.firm, d.room, 0, true⟩) else (0, Dk.keep ⟨d.bs, d.firm, d.room, d.fuse - 1, d.off⟩ n.toNat)
theorem back_all (d : Dk) (g : Nat) (v : Value) (n : Int) (w : World) (h : d.at w g v) (hd : d.ok) :
    Calls Try.prog 19 #[.pointer (some ⟨g, 0, none⟩), .int .i64 n] w (DkAns2 (d.back n).2 g v w (.int .i64 (d.back n).1)) := by
  obtain ⟨A, c, rfl, hnc, hcm⟩ := own_slice h.2
  obtain ⟨h0, h1, h2, h3, h4, hfz, hg⟩ := h.cells
  have H := Lib.hid h; have HD := Lib.hid hd; clear h hd
  cases hoff : d.off
  · rw [hoff] at h4
    by_cases hn0 : n < 0
    · have e : d.back n = (1, d) := by unfold Dk.back; rw [hoff]; simp [hn0]
      rw [e]; clear e hoff
      go_enter Try.func19, Try.ntmps19
      go_wp2_with fail
      go_ret
      exact dkAns2 rfl H.out (Turned.refl _ _ _) (Where.refl _ _)
    by_cases hn1 : (d.bs.length : Int) < n
    · have e : d.back n = (1, d) := by unfold Dk.back; rw [hoff]; simp [hn1]
      rw [e]; clear e hoff
      go_enter Try.func19, Try.ntmps19
      go_wp2_with fail
      go_ret
      exact dkAns2 rfl H.out (Turned.refl _ _ _) (Where.refl _ _)
    obtain ⟨k, rfl⟩ := Int.eq_ofNat_of_zero_le (show 0 ≤ n by omega)
    have hk : k ≤ d.bs.length := by omega
    by_cases hf1 : d.fuse = -1
    · have e : d.back k = (0, d.keep k) := by unfold Dk.back; rw [hoff]; simp [hf1]; omega
      rw [e]
      have HF1 := Lib.hid hf1
      clear e hoff hf1
      go_enter Try.func19, Try.ntmps19
      go_wp2_with fail
      refine (burn_none d g _ _ w H.out HF1.out).mono ?_; rintro e w' ⟨rfl, rfl⟩
      go_wp2_with fail
      refine (keep_all d g _ k w H.out hk).mono ?_; rintro e w' ⟨v', rfl, hat, ht, hwh⟩
      have HA := Lib.hid hat; have HT := Lib.hid ht; have HW := Lib.hid hwh; clear hat ht hwh
      go_wp2_with fail
      go_ret
      exact dkAns2 rfl HA.out HT.out HW.out
    · by_cases hf2 : d.fuse < 1
      · have e : d.back k = (9, ⟨d.bs, d.firm, d.room, 0, true⟩) := by unfold Dk.back; rw [hoff]; simp [hf1, hf2]; omega
        rw [e]
        have HF1 := Lib.hid hf1; have HF2 := Lib.hid hf2
        clear e hoff hf1 hf2
        go_enter Try.func19, Try.ntmps19
        go_wp2_with fail
        refine (burn_over d g _ 1 w H.out HF1.out HF2.out).mono ?_; rintro e w' ⟨rfl, rfl⟩
        go_wp2_with fail
        go_ret
        exact dkAns2 rfl ((H.out.fuse 0).off true) (((Turned.refl _ _ _).setCell 3 _).setCell 4 _) (Where.refl _ _)
      · have e : d.back k = (0, Dk.keep ⟨d.bs, d.firm, d.room, d.fuse - 1, d.off⟩ k) := by unfold Dk.back; rw [hoff]; simp [hf1, hf2]; omega
        rw [e]
        have HF1 := Lib.hid hf1; have HF2 := Lib.hid hf2
        clear e hoff hf1 hf2
        go_enter Try.func19, Try.ntmps19
        go_wp2_with fail
        refine (burn_ok d g _ 1 w H.out HF1.out HD.out.fuse0 HD.out.fuse (by have := HF2.out; omega) (by omega)).mono ?_; rintro e w' ⟨rfl, rfl⟩
        have hat1 := H.out.fuse (d.fuse - 1)
        have ht1 := (Turned.refl g (.slice A d.bs.length c) w).setCell 3 (.int .i64 (d.fuse - 1))
        have HA1 := Lib.hid hat1; have HT1 := Lib.hid ht1; clear hat1 ht1
        go_wp2_with fail
        refine (keep_all _ g _ k _ HA1.out hk).mono ?_; rintro e w' ⟨v', rfl, hat, ht, hwh⟩
        have HA := Lib.hid hat; have HT := Lib.hid (HT1.out.trans' ht); have HW := Lib.hid (hwh.less (w := w) (by simp)); clear hat ht hwh
        go_wp2_with fail
        go_ret
        exact dkAns2 rfl HA.out HT.out HW.out
  · have e : d.back n = (9, d) := by unfold Dk.back; rw [hoff]; rfl
    rw [e]; rw [hoff] at h4
    clear e hoff
    go_enter Try.func19, Try.ntmps19
    go_wp2_with fail
    go_ret
    exact dkAns2 rfl H.out (Turned.refl _ _ _) (Where.refl _ _)
theorem back_any (d : Dk) (g : Nat) (v : Value) (n : Int) (w : World) (h : d.at w g v) (hd : d.ok) :
    Calls Try.prog 19 #[.pointer (some ⟨g, 0, none⟩), .int .i64 n] w (DkAns (d.back n).2 g v w (.int .i64 (d.back n).1)) :=
  (back_all d g v n w h hd).mono fun _ _ h => h.less
end Go.Proofs.Ytccajejeanbcmaa
