/- three and expression of the program's writer; Format of package expr. -/
import Derived.Test.YtokmehjofboflaaGreatDoorExprWz
namespace Go.Proofs.YtokmehjofboflaaGreatDoor
set_option maxRecDepth 100000
open Go.RowKit

set_option maxHeartbeats 2000000 in
theorem threeW (U : Wup) (t : Int × Int) (c a b : Ex) (hC : EX U c) (hA : EX U a) (hB : EX U b) (hTc : (c.text U.ns).length ≤ 28 * c.flat.length) (hTa : (a.text U.ns).length ≤ 28 * a.flat.length) (hc0 : 0 < c.flat.length) (ha0 : 0 < a.flat.length) (w : World) (l : Bytes) (ys : List (Int × Int)) (h : WIs U w l ((c.flat ++ (a.flat ++ b.flat)) ++ ys)) (hl : l.length + 20 + 40 * ((c.flat ++ (a.flat ++ b.flat)) ++ ys).length ≤ 500000) :
    Calls Tryz.prog 67 #[.pointer (some ⟨U.W0.heap.size, 0, none⟩)] w (Wrote U (l ++ (Ex.cond t c a b).text U.ns) ys) := by
  rw [List.append_assoc, List.append_assoc] at h hl
  have hbc := brk_short 2 c.lv (c.text U.ns)
  have hla : 1 ≤ a.lv ∧ 1 ≤ b.lv := ⟨(lv_pos _).1, (lv_pos _).1⟩
  have n1 : (c.flat ++ (a.flat ++ (b.flat ++ ys))).length = c.flat.length + (a.flat ++ (b.flat ++ ys)).length := by simp
  have n2 : (a.flat ++ (b.flat ++ ys)).length = a.flat.length + (b.flat ++ ys).length := by simp
  unfold Ex.text
  have HE1 := Lib.hid (fun W (hW : WIs U W l (c.flat ++ (a.flat ++ (b.flat ++ ys)))) => hC 1 W l _ 1 rfl (by omega) hW (by omega))
  obtain ⟨L1, hL1⟩ : ∃ L1, L1 = l ++ brk 2 c.lv (c.text U.ns) := ⟨_, rfl⟩
  have l1 : L1.length ≤ l.length + 28 * c.flat.length + 2 := by rw [hL1, List.length_append]; omega
  rw [show (1 + 1 : Nat) = 2 from rfl, ← hL1] at HE1
  have HS1 := Lib.hid (fun W (hW : WIs U W L1 (a.flat ++ (b.flat ++ ys))) => wstr_any U W L1 _ hW [32, 63, 32] (by simp; omega) ⟨#[32, 63, 32]⟩ rfl)
  have HE2 := Lib.hid (fun W (hW : WIs U W (L1 ++ [32, 63, 32]) (a.flat ++ (b.flat ++ ys))) => hA 0 W _ _ 0 rfl (by omega) hW (by rw [List.length_append]; simp only [List.length_cons, List.length_nil]; omega))
  rw [brk_no (by omega)] at HE2
  obtain ⟨L2, hL2⟩ : ∃ L2, L2 = (L1 ++ [32, 63, 32]) ++ a.text U.ns := ⟨_, rfl⟩
  have l2 : L2.length ≤ L1.length + 3 + 28 * a.flat.length := by rw [hL2, List.length_append, List.length_append]; simp only [List.length_cons, List.length_nil]; omega
  rw [← hL2] at HE2
  have HS2 := Lib.hid (fun W (hW : WIs U W L2 (b.flat ++ ys)) => wstr_any U W L2 _ hW [32, 58, 32] (by simp only [List.length_cons, List.length_nil]; omega) ⟨#[32, 58, 32]⟩ rfl)
  have HE3 := Lib.hid (fun W (hW : WIs U W (L2 ++ [32, 58, 32]) (b.flat ++ ys)) => hB 0 W _ _ 0 rfl (by omega) hW (by rw [List.length_append]; simp only [List.length_cons, List.length_nil]; omega))
  rw [brk_no (by omega)] at HE3
  have HF : Hid ((L2 ++ [32, 58, 32]) ++ b.text U.ns = l ++ (brk 2 c.lv (c.text U.ns) ++ 32 :: 63 :: 32 :: (a.text U.ns ++ 32 :: 58 :: 32 :: b.text U.ns))) := Lib.hid (by rw [hL2, hL1]; simp)
  have HP := Lib.hid h
  clear hA hB hC hTa hTc hl hL1 hL2 l1 l2 n1 n2 hbc hla ha0 hc0 h
  generalize l ++ (brk 2 c.lv (c.text U.ns) ++ 32 :: 63 :: 32 :: (a.text U.ns ++ 32 :: 58 :: 32 :: b.text U.ns)) = R at *
  generalize b.text U.ns = T3 at *
  generalize c.flat ++ (a.flat ++ (b.flat ++ ys)) = z1 at *
  generalize a.flat ++ (b.flat ++ ys) = z2 at *
  generalize b.flat ++ ys = z3 at *
  generalize hpb : U.W0.heap.size = pb at *
  unfold Wrote at HE1 HE2 HE3
  go_enter Tryz.func67, Tryz.ntmps67
  go_wp2_with (first
    | (go_at_call 28; first | ((with_reducible refine (HE1.out _ HP.out).mono ?_); rintro e w1 ⟨rfl, h1⟩) | ((with_reducible refine (HE2.out _ h2).mono ?_); rintro e w3 ⟨rfl, h3⟩) | ((with_reducible refine (HE3.out _ h4).mono ?_); rintro e w5 ⟨rfl, h5⟩))
    | (go_at_call 103; first | ((with_reducible refine (HS1.out _ h1).mono ?_); rintro e w2 ⟨rfl, h2⟩) | ((with_reducible refine (HS2.out _ h3).mono ?_); rintro e w4 ⟨rfl, h4⟩)))
  go_end0
  exact ret_wrote h5 HF.out
set_option maxHeartbeats 4000000 in
theorem co_any (U : Wup) (hU : U.Ok) (x : Ex) (r : List (Int × Int)) (hx : x.flat = x.top :: r) (T : Bytes) (hT : x.text U.ns = T) (hn0 : 0 ≤ arF x.top.1)
    (h0 : arF x.top.1 = 0 → r = [] ∧ ∀ w l ys, WIs U w l ys → l.length ≤ 500000 → Calls Tryz.prog 64 #[.pointer (some ⟨U.W0.heap.size, 0, none⟩), .agg #[.int .i64 x.top.1, .int .i64 x.top.2]] w (Wrote U (l ++ T) ys))
    (h1 : arF x.top.1 = 1 → ∀ w l ys, WIs U w l (r ++ ys) → l.length + 20 + 40 * (r ++ ys).length ≤ 500000 → Calls Tryz.prog 65 #[.pointer (some ⟨U.W0.heap.size, 0, none⟩), .int .i64 x.top.1] w (Wrote U (l ++ T) ys))
    (h2 : arF x.top.1 = 2 → ∀ w l ys, WIs U w l (r ++ ys) → l.length + 20 + 40 * (r ++ ys).length ≤ 500000 → Calls Tryz.prog 66 #[.pointer (some ⟨U.W0.heap.size, 0, none⟩), .int .i64 x.top.1] w (Wrote U (l ++ T) ys))
    (h3 : arF x.top.1 = 3 → ∀ w l ys, WIs U w l (r ++ ys) → l.length + 20 + 40 * (r ++ ys).length ≤ 500000 → Calls Tryz.prog 67 #[.pointer (some ⟨U.W0.heap.size, 0, none⟩)] w (Wrote U (l ++ T) ys)) : CO U x := by
  intro lo w l ys z hz hlo hnb h hl
  subst hz
  rw [hT]
  rw [hx, List.cons_append] at h hl
  obtain ⟨b, o, c, e1, e2, hlt, k0, k1, hf, hfin⟩ := h.top hU
  obtain ⟨hwl, _⟩ := h.cells
  have hl2 : l.length + 20 + 40 * (r ++ ys).length ≤ 500000 := by rw [List.length_cons] at hl; omega
  have hl5 : l.length ≤ 500000 := by omega
  have hlv := fun W => levelP_any x.top.1 W
  have har := fun W => arityP_any x.top.1 W
  have hle := arF_le x.top.1
  have d0 : decide (((lvF x.top.1 : Nat) : Int) - 1 < (lo : Int)) = false := by
    have : ¬ x.lv < lo + 1 := hnb
    unfold Ex.lv at this
    simp
    omega
  have d0' : ¬ (((lvF x.top.1 : Nat) : Int) - 1 < (lo : Int)) := by simpa using d0
  have HFin := Lib.hid hfin
  have H0 := Lib.hid h0
  have H1 := Lib.hid h1
  have H2 := Lib.hid h2
  have H3 := Lib.hid h3
  clear hfin h0 h1 h2 h3 hnb h hx hT hl
  unfold Ex.lv at *
  generalize x.top = t at *
  obtain ⟨op, arg⟩ := t
  dsimp only at *
  generalize lvF op = m at *
  obtain ⟨n, hn⟩ : ∃ n, n = (r ++ ys).length := ⟨_, rfl⟩
  rw [← hn] at e1 e2 HFin
  have HN := Lib.hid hn
  clear hn
  have HL2 := Lib.hid hl2
  have HL5 := Lib.hid hl5
  clear hl2 hl5
  generalize hpb : U.W0.heap.size = pb at *
  have g1 : pb ≠ w.heap.size := by omega
  have g2 : b ≠ w.heap.size := by omega
  have g3 : b ≠ pb := by omega
  have g4 : ¬ ((n : Int) + 1 < 1) := by omega
  have g5 : (0 : Int) < (n : Int) + 1 := by omega
  unfold Wrote at *
  obtain ⟨ar, hare⟩ : ∃ ar, ar = arF op := ⟨_, rfl⟩
  rw [← hare] at har hle hn0 H0 H1 H2 H3
  clear hare
  rcases (by omega : ar = 0 ∨ ar = 1 ∨ ar = 2 ∨ ar = 3) with rfl | rfl | rfl | rfl
  · obtain ⟨rfl, H⟩ := H0.out rfl
    rw [List.nil_append] at *
    by_cases hc1 : c = 1
    · subst hc1
      obtain rfl : n = 0 := by omega
      have hW := (HFin.out w (some ⟨b, o, none⟩) 0 (Below.refl _ _) (Nat.le_refl _) (fun k => by omega)).far (below_alloc6 _ (.cells #[.int .i64 op, .int .i64 arg] 38))
      have HC := Lib.hid (H _ _ _ hW HL5.out)
      go_enter Tryz.func28, Tryz.ntmps28
      go_wp2_with (first | (go_at_call 61; refine (hlv _).mono ?_; rintro e w4 ⟨rfl, rfl⟩) | (go_at_call 63; refine (har _).mono ?_; rintro e w5 ⟨rfl, rfl⟩) | (go_at_call 64; refine HC.out.mono ?_; rintro e w6 ⟨rfl, h6⟩))
      go_end0
      exact ⟨rfl, h6⟩
    have hW := (HFin.out w (some ⟨b, o + 2, none⟩) (c - 1) (Below.refl _ _) (by omega) (fun _ => rfl)).far (below_alloc6 _ (.cells #[.int .i64 op, .int .i64 arg] 38))
    have HC := Lib.hid (H _ _ _ hW HL5.out)
    go_enter Tryz.func28, Tryz.ntmps28
    go_wp2_with (first | (go_at_call 61; refine (hlv _).mono ?_; rintro e w4 ⟨rfl, rfl⟩) | (go_at_call 63; refine (har _).mono ?_; rintro e w5 ⟨rfl, rfl⟩) | (go_at_call 64; refine HC.out.mono ?_; rintro e w6 ⟨rfl, h6⟩))
    go_end0
    exact ⟨rfl, h6⟩
  · have H := H1.out rfl
    by_cases hc1 : c = 1
    · subst hc1
      obtain rfl : n = 0 := by omega
      have hW := (HFin.out w (some ⟨b, o, none⟩) 0 (Below.refl _ _) (Nat.le_refl _) (fun k => by omega)).far (below_alloc6 _ (.cells #[.int .i64 op, .int .i64 arg] 38))
      have HC := Lib.hid (H _ _ _ hW HL2.out)
      go_enter Tryz.func28, Tryz.ntmps28
      go_wp2_with (first | (go_at_call 61; refine (hlv _).mono ?_; rintro e w4 ⟨rfl, rfl⟩) | (go_at_call 63; refine (har _).mono ?_; rintro e w5 ⟨rfl, rfl⟩) | (go_at_call 65; refine HC.out.mono ?_; rintro e w6 ⟨rfl, h6⟩))
      go_end0
      exact ⟨rfl, h6⟩
    have hW := (HFin.out w (some ⟨b, o + 2, none⟩) (c - 1) (Below.refl _ _) (by omega) (fun _ => rfl)).far (below_alloc6 _ (.cells #[.int .i64 op, .int .i64 arg] 38))
    have HC := Lib.hid (H _ _ _ hW HL2.out)
    go_enter Tryz.func28, Tryz.ntmps28
    go_wp2_with (first | (go_at_call 61; refine (hlv _).mono ?_; rintro e w4 ⟨rfl, rfl⟩) | (go_at_call 63; refine (har _).mono ?_; rintro e w5 ⟨rfl, rfl⟩) | (go_at_call 65; refine HC.out.mono ?_; rintro e w6 ⟨rfl, h6⟩))
    go_end0
    exact ⟨rfl, h6⟩
  · have H := H2.out rfl
    by_cases hc1 : c = 1
    · subst hc1
      obtain rfl : n = 0 := by omega
      have hW := (HFin.out w (some ⟨b, o, none⟩) 0 (Below.refl _ _) (Nat.le_refl _) (fun k => by omega)).far (below_alloc6 _ (.cells #[.int .i64 op, .int .i64 arg] 38))
      have HC := Lib.hid (H _ _ _ hW HL2.out)
      go_enter Tryz.func28, Tryz.ntmps28
      go_wp2_with (first | (go_at_call 61; refine (hlv _).mono ?_; rintro e w4 ⟨rfl, rfl⟩) | (go_at_call 63; refine (har _).mono ?_; rintro e w5 ⟨rfl, rfl⟩) | (go_at_call 66; refine HC.out.mono ?_; rintro e w6 ⟨rfl, h6⟩))
      go_end0
      exact ⟨rfl, h6⟩
    have hW := (HFin.out w (some ⟨b, o + 2, none⟩) (c - 1) (Below.refl _ _) (by omega) (fun _ => rfl)).far (below_alloc6 _ (.cells #[.int .i64 op, .int .i64 arg] 38))
    have HC := Lib.hid (H _ _ _ hW HL2.out)
    go_enter Tryz.func28, Tryz.ntmps28
    go_wp2_with (first | (go_at_call 61; refine (hlv _).mono ?_; rintro e w4 ⟨rfl, rfl⟩) | (go_at_call 63; refine (har _).mono ?_; rintro e w5 ⟨rfl, rfl⟩) | (go_at_call 66; refine HC.out.mono ?_; rintro e w6 ⟨rfl, h6⟩))
    go_end0
    exact ⟨rfl, h6⟩
  · have H := H3.out rfl
    by_cases hc1 : c = 1
    · subst hc1
      obtain rfl : n = 0 := by omega
      have hW := (HFin.out w (some ⟨b, o, none⟩) 0 (Below.refl _ _) (Nat.le_refl _) (fun k => by omega)).far (below_alloc6 _ (.cells #[.int .i64 op, .int .i64 arg] 38))
      have HC := Lib.hid (H _ _ _ hW HL2.out)
      go_enter Tryz.func28, Tryz.ntmps28
      go_wp2_with (first | (go_at_call 61; refine (hlv _).mono ?_; rintro e w4 ⟨rfl, rfl⟩) | (go_at_call 63; refine (har _).mono ?_; rintro e w5 ⟨rfl, rfl⟩) | (go_at_call 67; refine HC.out.mono ?_; rintro e w6 ⟨rfl, h6⟩))
      go_end0
      exact ⟨rfl, h6⟩
    have hW := (HFin.out w (some ⟨b, o + 2, none⟩) (c - 1) (Below.refl _ _) (by omega) (fun _ => rfl)).far (below_alloc6 _ (.cells #[.int .i64 op, .int .i64 arg] 38))
    have HC := Lib.hid (H _ _ _ hW HL2.out)
    go_enter Tryz.func28, Tryz.ntmps28
    go_wp2_with (first | (go_at_call 61; refine (hlv _).mono ?_; rintro e w4 ⟨rfl, rfl⟩) | (go_at_call 63; refine (har _).mono ?_; rintro e w5 ⟨rfl, rfl⟩) | (go_at_call 67; refine HC.out.mono ?_; rintro e w6 ⟨rfl, h6⟩))
    go_end0
    exact ⟨rfl, h6⟩
theorem flat_pos (x : Ex) : 0 < x.flat.length := by
  obtain ⟨r, h⟩ := flat_top x
  rw [h]
  simp
set_option maxHeartbeats 2000000 in
theorem ex_of (U : Wup) (hU : U.Ok) (x : Ex) (hC : CO U x) (hT : (x.text U.ns).length ≤ 28 * x.flat.length) : EX U x := by
  intro lo w l ys z hz hlo h hl
  by_cases hlv : x.lv < lo + 1
  case neg =>
    rw [brk_no hlv]
    exact hC lo w l ys z hz hlo hlv h (by omega)
  rw [brk_yes hlv]
  obtain ⟨r, hx⟩ := flat_top x
  have hp := flat_pos x
  have HB' := Lib.hid (br_of U x hC w l ys h hl hT)
  subst hz
  have h' := h
  rw [hx, List.cons_append] at h'
  obtain ⟨b, o, c, e1, e2, hlt, k0, k1, hf, _⟩ := h'.top hU
  obtain ⟨hwl, _⟩ := h.cells
  have hlv2 := fun W => levelP_any x.top.1 W
  have d0 : (((lvF x.top.1 : Nat) : Int) - 1 < (lo : Int)) := by
    unfold Ex.lv at hlv
    omega
  clear h h' hC hT hl hlv hp
  generalize x.top = t at *
  obtain ⟨op, arg⟩ := t
  dsimp only at *
  generalize lvF op = m at *
  generalize (r ++ ys).length = n at *
  generalize hpb : U.W0.heap.size = pb at *
  have g5 : (0 : Int) < (n : Int) + 1 := by omega
  unfold Wrote at *
  go_enter Tryz.func28, Tryz.ntmps28
  go_wp2_with (first | (go_at_call 61; refine (hlv2 _).mono ?_; rintro e w4 ⟨rfl, rfl⟩) | (go_at_call 62; refine HB'.out.mono ?_; rintro e w6 ⟨rfl, h6⟩))
  (try simp only [Exit.inBlock, Exit.then])
  refine bodyPost_ret (results_none rfl _ _ _) rfl ?_
  exact ⟨rfl, h6⟩
end Go.Proofs.YtokmehjofboflaaGreatDoor
