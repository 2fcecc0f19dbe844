/- one, two, three and expression of the program's writer; Format of package expr. -/
import Derived.Test.YtokmehjofboflaaGreatDoorExprWy
import Derived.Test.YtokmehjofboflaaGreatDoorExprRp
namespace Go.Proofs.YtokmehjofboflaaGreatDoor
set_option maxRecDepth 100000
open Go.RowKit

theorem word_short (k : Nat) (hk : k < 44) : (wordF (k : Int)).length ≤ 8 := by
  have : ∀ j : Nat, j < 44 → (wordF (j : Int)).length ≤ 8 := by decide
  exact this k hk
theorem ret_wrote {U : Wup} {l l' : Bytes} {ys : List (Int × Int)} {w : World} (h : WIs U w l ys) (e : l = l') : Wrote U l' ys (.returned (.tuple #[])) w := by
  subst e
  exact ⟨rfl, h⟩
set_option maxHeartbeats 2000000 in
theorem oneW (U : Wup) (hU : U.Ok) (t : Int × Int) (a : Ex) (hw : arF t.1 = 1) (hE : EX U a) (hB : BR U a) (hT : (a.text U.ns).length ≤ 28 * a.flat.length) (w : World) (l : Bytes) (ys : List (Int × Int)) (h : WIs U w l (a.flat ++ ys)) (hl : l.length + 20 + 40 * (a.flat ++ ys).length ≤ 500000) :
    Calls Tryz.prog 65 #[.pointer (some ⟨U.W0.heap.size, 0, none⟩), .int .i64 t.1] w (Wrote U (l ++ (Ex.un t a).text U.ns) ys) := by
  have hr := ar_un hw
  obtain ⟨op, arg⟩ := t
  dsimp only at hr ⊢
  obtain ⟨k, rfl⟩ : ∃ k : Nat, op = (k : Int) := ⟨op.toNat, by omega⟩
  have hcw := (h.words hU).at_ k (by omega)
  have r0 : (0 : Int) ≤ (k : Int) := by omega
  have r1 : (k : Int) < 43 := by omega
  have hwl := word_short k (by omega)
  have HS := Lib.hid (fun W (hW : WIs U W l (a.flat ++ ys)) => wstr_any U W l (a.flat ++ ys) hW (wordF (k : Int)) (by omega) (mkS (wordF (k : Int))) rfl)
  have HI1 := Lib.hid (fun m => h.far (belDraws (Below.refl _ _) m))
  have hlv := fun W => levelP_any (k : Int) W
  have hl2 : (l ++ wordF (k : Int)).length + 1 + 40 * (a.flat ++ ys).length ≤ 500000 := by
    rw [List.length_append]
    omega
  unfold Ex.text
  dsimp only
  by_cases hn : (k : Int) = 18 ∨ (k : Int) = 19
  · rw [if_pos hn]
    have hk7 : lvF (k : Int) = 7 := by rcases hn with e | e <;> (rw [e]; rfl)
    rw [hk7] at hlv
    have HE := Lib.hid (fun W (hW : WIs U W (l ++ wordF (k : Int)) (a.flat ++ ys)) => hE 6 W _ ys 6 rfl (by omega) hW (by omega))
    clear hE hB hU hw hn hk7 hT hl hl2 hwl
    generalize mkS (wordF (k : Int)) = Y at *
    generalize wordF (k : Int) = y at *
    generalize a.flat ++ ys = zs at *
    generalize hpb : U.W0.heap.size = pb at *
    unfold Wrote at HE
    go_enter Tryz.func65, Tryz.ntmps65
    go_wp2
    go_region_with (go_at_call 103; refine (HS.out _ (by first | exact h | exact HI1.out _)).mono ?_; rintro e w3 ⟨rfl, hI3⟩)
    all_goals (go_wp2_with (first | (go_at_call 61; refine (hlv _).mono ?_; rintro e w4 ⟨rfl, rfl⟩) | (go_at_call 28; refine (HE.out _ hI3).mono ?_; rintro e w5 ⟨rfl, hI5⟩)); go_end0; exact ret_wrote hI5 (by simp))
  · rw [if_neg hn]
    have hk7 : lvF (k : Int) = 8 := by
      unfold lvF
      rw [if_neg (by omega), if_neg (by omega), if_neg (by omega), if_neg (by omega), if_neg (by omega), if_neg (by omega), if_neg hn]
    rw [hk7] at hlv
    have HE := Lib.hid (fun W (hW : WIs U W (l ++ wordF (k : Int)) (a.flat ++ ys)) => hB W _ ys hW hl2 hT)
    clear hE hB hU hw hn hk7 hT hl hl2 hwl
    generalize mkS (wordF (k : Int)) = Y at *
    generalize wordF (k : Int) = y at *
    generalize a.flat ++ ys = zs at *
    generalize hpb : U.W0.heap.size = pb at *
    unfold Wrote at HE
    go_enter Tryz.func65, Tryz.ntmps65
    go_wp2
    go_region_with (go_at_call 103; refine (HS.out _ (by first | exact h | exact HI1.out _)).mono ?_; rintro e w3 ⟨rfl, hI3⟩)
    all_goals (go_wp2_with (first | (go_at_call 61; refine (hlv _).mono ?_; rintro e w4 ⟨rfl, rfl⟩) | (go_at_call 62; refine (HE.out _ hI3).mono ?_; rintro e w5 ⟨rfl, hI5⟩)); go_end0; exact ret_wrote hI5 (by simp))
set_option maxHeartbeats 2000000 in
theorem twoW (U : Wup) (hU : U.Ok) (t : Int × Int) (a b : Ex) (hw : arF t.1 = 2) (hA : EX U a) (hB : EX U b) (hTa : (a.text U.ns).length ≤ 28 * a.flat.length) (ha0 : 0 < a.flat.length) (w : World) (l : Bytes) (ys : List (Int × Int)) (h : WIs U w l ((a.flat ++ b.flat) ++ ys)) (hl : l.length + 20 + 40 * ((a.flat ++ b.flat) ++ ys).length ≤ 500000) :
    Calls Tryz.prog 66 #[.pointer (some ⟨U.W0.heap.size, 0, none⟩), .int .i64 t.1] w (Wrote U (l ++ (Ex.bi t a b).text U.ns) ys) := by
  have hr := ar_bi hw
  obtain ⟨op, arg⟩ := t
  dsimp only at hr ⊢
  obtain ⟨k, rfl⟩ : ∃ k : Nat, op = (k : Int) := ⟨op.toNat, by omega⟩
  rw [List.append_assoc] at h hl
  have r0 : (0 : Int) ≤ (k : Int) := by omega
  have r1 : (k : Int) < 43 := by omega
  have hwl := word_short k (by omega)
  have hlv := fun W => levelP_any (k : Int) W
  obtain ⟨m, hm⟩ : ∃ m, m = lvF (k : Int) := ⟨_, rfl⟩
  have hm2 : 2 ≤ m ∧ m ≤ 6 := by
    rw [hm]
    unfold lvF
    repeat' split
    all_goals omega
  unfold Ex.text
  dsimp only
  rw [← hm] at hlv ⊢
  have hsum : a.flat.length + (b.flat.length + ys.length) = (a.flat ++ (b.flat ++ ys)).length := by simp
  have hadd1 : ∀ W, (Op.stringOp .add ⟨#[32]⟩ (mkS (wordF (k : Int)))).run Tryz.prog W = .ok (.string (mkS (32 :: wordF (k : Int)))) W := fun W => mkS_add [32] _ (by simp) (by omega) W
  have hadd2 : ∀ W, (Op.stringOp .add (mkS (32 :: wordF (k : Int))) ⟨#[32]⟩).run Tryz.prog W = .ok (.string (mkS (32 :: wordF (k : Int) ++ [32]))) W := fun W => mkS_add (32 :: wordF (k : Int)) [32] (by rw [List.length_cons]; omega) (by simp) W
  have HW := Lib.hid (fun W (L : Bytes) (zs : List (Int × Int)) (hW : WIs U W L zs) => (hW.words hU).at_ k (by omega))
  obtain ⟨lo, hlo⟩ : ∃ lo, lo = (if m = 4 then 4 else m - 1) := ⟨_, rfl⟩
  have htext : (if m = 4 then brk 5 a.lv (a.text U.ns) ++ 32 :: (wordF (k : Int) ++ 32 :: brk 5 b.lv (b.text U.ns)) else brk m a.lv (a.text U.ns) ++ 32 :: (wordF (k : Int) ++ 32 :: brk (m + 1) b.lv (b.text U.ns))) = brk (lo + 1) a.lv (a.text U.ns) ++ 32 :: (wordF (k : Int) ++ 32 :: brk (m + 1) b.lv (b.text U.ns)) := by
    by_cases h4 : m = 4
    · rw [if_pos h4, hlo, if_pos h4, h4]
    · rw [if_neg h4, hlo, if_neg h4, show m - 1 + 1 = m by omega]
  rw [htext]
  have hbl := brk_short (lo + 1) a.lv (a.text U.ns)
  have HE1 := Lib.hid (fun W (z : Int) (hz : z = (lo : Int)) (hW : WIs U W l (a.flat ++ (b.flat ++ ys))) => hA lo W l (b.flat ++ ys) z hz (by rw [hlo]; split <;> omega) hW (by omega))
  obtain ⟨L1, hL1⟩ : ∃ L1, L1 = l ++ brk (lo + 1) a.lv (a.text U.ns) := ⟨_, rfl⟩
  have hL1l : L1.length + 20 + 40 * (b.flat ++ ys).length ≤ 500000 := by
    rw [hL1, List.length_append]
    rw [← hsum] at hl
    rw [List.length_append]
    omega
  rw [← hL1] at HE1
  have HS := Lib.hid (fun W (hW : WIs U W L1 (b.flat ++ ys)) => wstr_any U W L1 (b.flat ++ ys) hW (32 :: wordF (k : Int) ++ [32]) (by simp; omega) (mkS (32 :: wordF (k : Int) ++ [32])) rfl)
  have HE2 := Lib.hid (fun W (z : Int) (hz : z = (m : Int)) (hW : WIs U W (L1 ++ (32 :: wordF (k : Int) ++ [32])) (b.flat ++ ys)) => hB m W _ ys z hz (by omega) hW (by simp; rw [List.length_append] at hL1l; omega))
  have HF : Hid ((L1 ++ (32 :: wordF (k : Int) ++ [32])) ++ brk (m + 1) b.lv (b.text U.ns) = l ++ (brk (lo + 1) a.lv (a.text U.ns) ++ 32 :: (wordF (k : Int) ++ 32 :: brk (m + 1) b.lv (b.text U.ns)))) := Lib.hid (by rw [hL1]; simp)
  have HP := Lib.hid h
  clear hA hB hU hw hTa hl hL1l hL1 htext hbl hm hwl hsum h ha0
  generalize mkS (32 :: wordF (k : Int) ++ [32]) = Z at *
  generalize mkS (32 :: wordF (k : Int)) = Y2 at *
  generalize 32 :: wordF (k : Int) ++ [32] = y3 at *
  generalize l ++ (brk (lo + 1) a.lv (a.text U.ns) ++ 32 :: (wordF (k : Int) ++ 32 :: brk (m + 1) b.lv (b.text U.ns))) = R at *
  generalize mkS (wordF (k : Int)) = Y at *
  generalize a.flat ++ (b.flat ++ ys) = zs at *
  generalize b.flat ++ ys = us at *
  generalize brk (m + 1) b.lv (b.text U.ns) = T2 at *
  generalize hpb : U.W0.heap.size = pb at *
  unfold Wrote at HE1 HE2
  by_cases h4 : m = 4
  · subst h4
    rw [if_pos rfl] at hlo
    subst hlo
    go_enter Tryz.func66, Tryz.ntmps66
    go_wp2_with (first | (go_at_call 61; refine (hlv _).mono ?_; rintro e w4 ⟨rfl, rfl⟩) | (go_at_call 28; refine (HE1.out _ _ (by omega) HP.out).mono ?_; rintro e w5 ⟨rfl, hI5⟩; have hcw := HW.out _ _ _ hI5; have HI5 := Lib.hid (fun m => hI5.far (belDraws (Below.refl _ _) m))))
    go_region_with (go_at_call 103; refine (HS.out _ (by first | exact hI5 | exact HI5.out _)).mono ?_; rintro e w3 ⟨rfl, hI3⟩)
    all_goals (go_wp2_with (go_at_call 28; refine (HE2.out _ _ (by omega) hI3).mono ?_; rintro e w6 ⟨rfl, hI6⟩); go_end0; exact ret_wrote hI6 HF.out)
  · rw [if_neg h4] at hlo
    have d4 : (((m : Int) - 1) == 3) = false := by simp; omega
    go_enter Tryz.func66, Tryz.ntmps66
    go_wp2_with (first | (go_at_call 61; refine (hlv _).mono ?_; rintro e w4 ⟨rfl, rfl⟩) | (go_at_call 28; refine (HE1.out _ _ (by omega) HP.out).mono ?_; rintro e w5 ⟨rfl, hI5⟩; have hcw := HW.out _ _ _ hI5; have HI5 := Lib.hid (fun m => hI5.far (belDraws (Below.refl _ _) m))))
    go_region_with (go_at_call 103; refine (HS.out _ (by first | exact hI5 | exact HI5.out _)).mono ?_; rintro e w3 ⟨rfl, hI3⟩)
    all_goals (go_wp2_with (go_at_call 28; refine (HE2.out _ _ (by omega) hI3).mono ?_; rintro e w6 ⟨rfl, hI6⟩); go_end0; exact ret_wrote hI6 HF.out)
end Go.Proofs.YtokmehjofboflaaGreatDoor
