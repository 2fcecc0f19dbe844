/- Names among the arguments; what light, fair and awake of layer 6's laws answer. (Imports the contracts of the program's Parse and Format: parseP_any, formatP_ok, formatP_bad.) -/
import Derived.Test.YtdbahiepihkagaaGreatDoorExprWz
import Derived.SliceStrings
namespace Go.Proofs.YtdbahiepihkagaaGreatDoor
set_option maxRecDepth 100000
open Go.RowKit

set_option maxHeartbeats 2000000 in
theorem threeW (U : Wup) (t : Int × Int) (c a b : Ex) (hC : EX U c) (hA : EX U a) (hB : EX U b) (hTc : (c.text U.ns).length ≤ 28 * c.flat.length) (hTa : (a.text U.ns).length ≤ 28 * a.flat.length) (hc0 : 0 < c.flat.length) (ha0 : 0 < a.flat.length) (w : World) (l : Bytes) (ys : List (Int × Int)) (h : WIs U w l ((c.flat ++ (a.flat ++ b.flat)) ++ ys)) (hl : l.length + 20 + 40 * ((c.flat ++ (a.flat ++ b.flat)) ++ ys).length ≤ 500000) :
    Calls Tryz.prog 89 #[.pointer (some ⟨U.W0.heap.size, 0, none⟩)] w (Wrote U (l ++ (Ex.cond t c a b).text U.ns) ys) := by
  rw [List.append_assoc, List.append_assoc] at h hl
  have hbc := brk_short 2 c.lv (c.text U.ns)
  have hla : 1 ≤ a.lv ∧ 1 ≤ b.lv := ⟨(lv_pos _).1, (lv_pos _).1⟩
  have n1 : (c.flat ++ (a.flat ++ (b.flat ++ ys))).length = c.flat.length + (a.flat ++ (b.flat ++ ys)).length := by simp
  have n2 : (a.flat ++ (b.flat ++ ys)).length = a.flat.length + (b.flat ++ ys).length := by simp
  unfold Ex.text
  have HE1 := Lib.hid (fun W (hW : WIs U W l (c.flat ++ (a.flat ++ (b.flat ++ ys)))) => hC 1 W l _ 1 rfl (by omega) hW (by omega))
  obtain ⟨L1, hL1⟩ : ∃ L1, L1 = l ++ brk 2 c.lv (c.text U.ns) := ⟨_, rfl⟩
  have l1 : L1.length ≤ l.length + 28 * c.flat.length + 2 := by rw [hL1, List.length_append]; omega
  rw [show (1 + 1 : Nat) = 2 from rfl, ← hL1] at HE1
  have HS1 := Lib.hid (fun W (hW : WIs U W L1 (a.flat ++ (b.flat ++ ys))) => wstr_any U W L1 _ hW [32, 63, 32] (by simp; omega) ⟨#[32, 63, 32]⟩ rfl)
  have HE2 := Lib.hid (fun W (hW : WIs U W (L1 ++ [32, 63, 32]) (a.flat ++ (b.flat ++ ys))) => hA 0 W _ _ 0 rfl (by omega) hW (by rw [List.length_append]; simp only [List.length_cons, List.length_nil]; omega))
  rw [brk_no (by omega)] at HE2
  obtain ⟨L2, hL2⟩ : ∃ L2, L2 = (L1 ++ [32, 63, 32]) ++ a.text U.ns := ⟨_, rfl⟩
  have l2 : L2.length ≤ L1.length + 3 + 28 * a.flat.length := by rw [hL2, List.length_append, List.length_append]; simp only [List.length_cons, List.length_nil]; omega
  rw [← hL2] at HE2
  have HS2 := Lib.hid (fun W (hW : WIs U W L2 (b.flat ++ ys)) => wstr_any U W L2 _ hW [32, 58, 32] (by simp only [List.length_cons, List.length_nil]; omega) ⟨#[32, 58, 32]⟩ rfl)
  have HE3 := Lib.hid (fun W (hW : WIs U W (L2 ++ [32, 58, 32]) (b.flat ++ ys)) => hB 0 W _ _ 0 rfl (by omega) hW (by rw [List.length_append]; simp only [List.length_cons, List.length_nil]; omega))
  rw [brk_no (by omega)] at HE3
  have HF : Hid ((L2 ++ [32, 58, 32]) ++ b.text U.ns = l ++ (brk 2 c.lv (c.text U.ns) ++ 32 :: 63 :: 32 :: (a.text U.ns ++ 32 :: 58 :: 32 :: b.text U.ns))) := Lib.hid (by rw [hL2, hL1]; simp)
  have HP := Lib.hid h
  clear hA hB hC hTa hTc hl hL1 hL2 l1 l2 n1 n2 hbc hla ha0 hc0 h
  generalize l ++ (brk 2 c.lv (c.text U.ns) ++ 32 :: 63 :: 32 :: (a.text U.ns ++ 32 :: 58 :: 32 :: b.text U.ns)) = R at *
  generalize b.text U.ns = T3 at *
  generalize c.flat ++ (a.flat ++ (b.flat ++ ys)) = z1 at *
  generalize a.flat ++ (b.flat ++ ys) = z2 at *
  generalize b.flat ++ ys = z3 at *
  generalize hpb : U.W0.heap.size = pb at *
  unfold Wrote at HE1 HE2 HE3
  go_enter Tryz.func89, Tryz.ntmps89
  go_wp2_with (first
    | (go_at_call 41; first | ((with_reducible refine (HE1.out _ HP.out).mono ?_); rintro e w1 ⟨rfl, h1⟩) | ((with_reducible refine (HE2.out _ h2).mono ?_); rintro e w3 ⟨rfl, h3⟩) | ((with_reducible refine (HE3.out _ h4).mono ?_); rintro e w5 ⟨rfl, h5⟩))
    | (go_at_call 95; first | ((with_reducible refine (HS1.out _ h1).mono ?_); rintro e w2 ⟨rfl, h2⟩) | ((with_reducible refine (HS2.out _ h3).mono ?_); rintro e w4 ⟨rfl, h4⟩)))
  go_end0
  exact ret_wrote h5 HF.out
set_option maxHeartbeats 4000000 in
theorem co_any (U : Wup) (hU : U.Ok) (x : Ex) (r : List (Int × Int)) (hx : x.flat = x.top :: r) (T : Bytes) (hT : x.text U.ns = T) (hn0 : 0 ≤ arF x.top.1)
    (h0 : arF x.top.1 = 0 → r = [] ∧ ∀ w l ys, WIs U w l ys → l.length ≤ 500000 → Calls Tryz.prog 86 #[.pointer (some ⟨U.W0.heap.size, 0, none⟩), .agg #[.int .i64 x.top.1, .int .i64 x.top.2]] w (Wrote U (l ++ T) ys))
    (h1 : arF x.top.1 = 1 → ∀ w l ys, WIs U w l (r ++ ys) → l.length + 20 + 40 * (r ++ ys).length ≤ 500000 → Calls Tryz.prog 87 #[.pointer (some ⟨U.W0.heap.size, 0, none⟩), .int .i64 x.top.1] w (Wrote U (l ++ T) ys))
    (h2 : arF x.top.1 = 2 → ∀ w l ys, WIs U w l (r ++ ys) → l.length + 20 + 40 * (r ++ ys).length ≤ 500000 → Calls Tryz.prog 88 #[.pointer (some ⟨U.W0.heap.size, 0, none⟩), .int .i64 x.top.1] w (Wrote U (l ++ T) ys))
    (h3 : arF x.top.1 = 3 → ∀ w l ys, WIs U w l (r ++ ys) → l.length + 20 + 40 * (r ++ ys).length ≤ 500000 → Calls Tryz.prog 89 #[.pointer (some ⟨U.W0.heap.size, 0, none⟩)] w (Wrote U (l ++ T) ys)) : CO U x := by
  intro lo w l ys z hz hlo hnb h hl
  subst hz
  rw [hT]
  rw [hx, List.cons_append] at h hl
  obtain ⟨b, o, c, e1, e2, hlt, k0, k1, hf, hfin⟩ := h.top hU
  obtain ⟨hwl, _⟩ := h.cells
  have hl2 : l.length + 20 + 40 * (r ++ ys).length ≤ 500000 := by rw [List.length_cons] at hl; omega
  have hl5 : l.length ≤ 500000 := by omega
  have hlv := fun W => levelP_any x.top.1 W
  have har := fun W => arityP_any x.top.1 W
  have hle := arF_le x.top.1
  have d0 : decide (((lvF x.top.1 : Nat) : Int) - 1 < (lo : Int)) = false := by
    have : ¬ x.lv < lo + 1 := hnb
    unfold Ex.lv at this
    simp
    omega
  have d0' : ¬ (((lvF x.top.1 : Nat) : Int) - 1 < (lo : Int)) := by simpa using d0
  have HFin := Lib.hid hfin
  have H0 := Lib.hid h0
  have H1 := Lib.hid h1
  have H2 := Lib.hid h2
  have H3 := Lib.hid h3
  clear hfin h0 h1 h2 h3 hnb h hx hT hl
  unfold Ex.lv at *
  generalize x.top = t at *
  obtain ⟨op, arg⟩ := t
  dsimp only at *
  generalize lvF op = m at *
  obtain ⟨n, hn⟩ : ∃ n, n = (r ++ ys).length := ⟨_, rfl⟩
  rw [← hn] at e1 e2 HFin
  have HN := Lib.hid hn
  clear hn
  have HL2 := Lib.hid hl2
  have HL5 := Lib.hid hl5
  clear hl2 hl5
  generalize hpb : U.W0.heap.size = pb at *
  have g1 : pb ≠ w.heap.size := by omega
  have g2 : b ≠ w.heap.size := by omega
  have g3 : b ≠ pb := by omega
  have g4 : ¬ ((n : Int) + 1 < 1) := by omega
  have g5 : (0 : Int) < (n : Int) + 1 := by omega
  unfold Wrote at *
  obtain ⟨ar, hare⟩ : ∃ ar, ar = arF op := ⟨_, rfl⟩
  rw [← hare] at har hle hn0 H0 H1 H2 H3
  clear hare
  rcases (by omega : ar = 0 ∨ ar = 1 ∨ ar = 2 ∨ ar = 3) with rfl | rfl | rfl | rfl
  · obtain ⟨rfl, H⟩ := H0.out rfl
    rw [List.nil_append] at *
    by_cases hc1 : c = 1
    · subst hc1
      obtain rfl : n = 0 := by omega
      have hW := (HFin.out w (some ⟨b, o, none⟩) 0 (Below.refl _ _) (Nat.le_refl _) (fun k => by omega)).far (below_alloc6 _ (.cells #[.int .i64 op, .int .i64 arg] 55))
      have HC := Lib.hid (H _ _ _ hW HL5.out)
      go_enter Tryz.func41, Tryz.ntmps41
      go_wp2_with (first | (go_at_call 83; refine (hlv _).mono ?_; rintro e w4 ⟨rfl, rfl⟩) | (go_at_call 85; refine (har _).mono ?_; rintro e w5 ⟨rfl, rfl⟩) | (go_at_call 86; refine HC.out.mono ?_; rintro e w6 ⟨rfl, h6⟩))
      go_end0
      exact ⟨rfl, h6⟩
    have hW := (HFin.out w (some ⟨b, o + 2, none⟩) (c - 1) (Below.refl _ _) (by omega) (fun _ => rfl)).far (below_alloc6 _ (.cells #[.int .i64 op, .int .i64 arg] 55))
    have HC := Lib.hid (H _ _ _ hW HL5.out)
    go_enter Tryz.func41, Tryz.ntmps41
    go_wp2_with (first | (go_at_call 83; refine (hlv _).mono ?_; rintro e w4 ⟨rfl, rfl⟩) | (go_at_call 85; refine (har _).mono ?_; rintro e w5 ⟨rfl, rfl⟩) | (go_at_call 86; refine HC.out.mono ?_; rintro e w6 ⟨rfl, h6⟩))
    go_end0
    exact ⟨rfl, h6⟩
  · have H := H1.out rfl
    by_cases hc1 : c = 1
    · subst hc1
      obtain rfl : n = 0 := by omega
      have hW := (HFin.out w (some ⟨b, o, none⟩) 0 (Below.refl _ _) (Nat.le_refl _) (fun k => by omega)).far (below_alloc6 _ (.cells #[.int .i64 op, .int .i64 arg] 55))
      have HC := Lib.hid (H _ _ _ hW HL2.out)
      go_enter Tryz.func41, Tryz.ntmps41
      go_wp2_with (first | (go_at_call 83; refine (hlv _).mono ?_; rintro e w4 ⟨rfl, rfl⟩) | (go_at_call 85; refine (har _).mono ?_; rintro e w5 ⟨rfl, rfl⟩) | (go_at_call 87; refine HC.out.mono ?_; rintro e w6 ⟨rfl, h6⟩))
      go_end0
      exact ⟨rfl, h6⟩
    have hW := (HFin.out w (some ⟨b, o + 2, none⟩) (c - 1) (Below.refl _ _) (by omega) (fun _ => rfl)).far (below_alloc6 _ (.cells #[.int .i64 op, .int .i64 arg] 55))
    have HC := Lib.hid (H _ _ _ hW HL2.out)
    go_enter Tryz.func41, Tryz.ntmps41
    go_wp2_with (first | (go_at_call 83; refine (hlv _).mono ?_; rintro e w4 ⟨rfl, rfl⟩) | (go_at_call 85; refine (har _).mono ?_; rintro e w5 ⟨rfl, rfl⟩) | (go_at_call 87; refine HC.out.mono ?_; rintro e w6 ⟨rfl, h6⟩))
    go_end0
    exact ⟨rfl, h6⟩
  · have H := H2.out rfl
    by_cases hc1 : c = 1
    · subst hc1
      obtain rfl : n = 0 := by omega
      have hW := (HFin.out w (some ⟨b, o, none⟩) 0 (Below.refl _ _) (Nat.le_refl _) (fun k => by omega)).far (below_alloc6 _ (.cells #[.int .i64 op, .int .i64 arg] 55))
      have HC := Lib.hid (H _ _ _ hW HL2.out)
      go_enter Tryz.func41, Tryz.ntmps41
      go_wp2_with (first | (go_at_call 83; refine (hlv _).mono ?_; rintro e w4 ⟨rfl, rfl⟩) | (go_at_call 85; refine (har _).mono ?_; rintro e w5 ⟨rfl, rfl⟩) | (go_at_call 88; refine HC.out.mono ?_; rintro e w6 ⟨rfl, h6⟩))
      go_end0
      exact ⟨rfl, h6⟩
    have hW := (HFin.out w (some ⟨b, o + 2, none⟩) (c - 1) (Below.refl _ _) (by omega) (fun _ => rfl)).far (below_alloc6 _ (.cells #[.int .i64 op, .int .i64 arg] 55))
    have HC := Lib.hid (H _ _ _ hW HL2.out)
    go_enter Tryz.func41, Tryz.ntmps41
    go_wp2_with (first | (go_at_call 83; refine (hlv _).mono ?_; rintro e w4 ⟨rfl, rfl⟩) | (go_at_call 85; refine (har _).mono ?_; rintro e w5 ⟨rfl, rfl⟩) | (go_at_call 88; refine HC.out.mono ?_; rintro e w6 ⟨rfl, h6⟩))
    go_end0
    exact ⟨rfl, h6⟩
  · have H := H3.out rfl
    by_cases hc1 : c = 1
    · subst hc1
      obtain rfl : n = 0 := by omega
      have hW := (HFin.out w (some ⟨b, o, none⟩) 0 (Below.refl _ _) (Nat.le_refl _) (fun k => by omega)).far (below_alloc6 _ (.cells #[.int .i64 op, .int .i64 arg] 55))
      have HC := Lib.hid (H _ _ _ hW HL2.out)
      go_enter Tryz.func41, Tryz.ntmps41
      go_wp2_with (first | (go_at_call 83; refine (hlv _).mono ?_; rintro e w4 ⟨rfl, rfl⟩) | (go_at_call 85; refine (har _).mono ?_; rintro e w5 ⟨rfl, rfl⟩) | (go_at_call 89; refine HC.out.mono ?_; rintro e w6 ⟨rfl, h6⟩))
      go_end0
      exact ⟨rfl, h6⟩
    have hW := (HFin.out w (some ⟨b, o + 2, none⟩) (c - 1) (Below.refl _ _) (by omega) (fun _ => rfl)).far (below_alloc6 _ (.cells #[.int .i64 op, .int .i64 arg] 55))
    have HC := Lib.hid (H _ _ _ hW HL2.out)
    go_enter Tryz.func41, Tryz.ntmps41
    go_wp2_with (first | (go_at_call 83; refine (hlv _).mono ?_; rintro e w4 ⟨rfl, rfl⟩) | (go_at_call 85; refine (har _).mono ?_; rintro e w5 ⟨rfl, rfl⟩) | (go_at_call 89; refine HC.out.mono ?_; rintro e w6 ⟨rfl, h6⟩))
    go_end0
    exact ⟨rfl, h6⟩
theorem flat_pos (x : Ex) : 0 < x.flat.length := by
  obtain ⟨r, h⟩ := flat_top x
  rw [h]
  simp
set_option maxHeartbeats 2000000 in
theorem ex_of (U : Wup) (hU : U.Ok) (x : Ex) (hC : CO U x) (hT : (x.text U.ns).length ≤ 28 * x.flat.length) : EX U x := by
  intro lo w l ys z hz hlo h hl
  by_cases hlv : x.lv < lo + 1
  case neg =>
    rw [brk_no hlv]
    exact hC lo w l ys z hz hlo hlv h (by omega)
  rw [brk_yes hlv]
  obtain ⟨r, hx⟩ := flat_top x
  have hp := flat_pos x
  have HB' := Lib.hid (br_of U x hC w l ys h hl hT)
  subst hz
  have h' := h
  rw [hx, List.cons_append] at h'
  obtain ⟨b, o, c, e1, e2, hlt, k0, k1, hf, _⟩ := h'.top hU
  obtain ⟨hwl, _⟩ := h.cells
  have hlv2 := fun W => levelP_any x.top.1 W
  have d0 : (((lvF x.top.1 : Nat) : Int) - 1 < (lo : Int)) := by
    unfold Ex.lv at hlv
    omega
  clear h h' hC hT hl hlv hp
  generalize x.top = t at *
  obtain ⟨op, arg⟩ := t
  dsimp only at *
  generalize lvF op = m at *
  generalize (r ++ ys).length = n at *
  generalize hpb : U.W0.heap.size = pb at *
  have g5 : (0 : Int) < (n : Int) + 1 := by omega
  unfold Wrote at *
  go_enter Tryz.func41, Tryz.ntmps41
  go_wp2_with (first | (go_at_call 83; refine (hlv2 _).mono ?_; rintro e w4 ⟨rfl, rfl⟩) | (go_at_call 84; refine HB'.out.mono ?_; rintro e w6 ⟨rfl, h6⟩))
  (try simp only [Exit.inBlock, Exit.then])
  refine bodyPost_ret (results_none rfl _ _ _) rfl ?_
  exact ⟨rfl, h6⟩
end Go.Proofs.YtdbahiepihkagaaGreatDoor
namespace Go.Proofs.YtdbahiepihkagaaGreatDoor
set_option maxRecDepth 100000
open Go.RowKit

theorem written_ne {ns : List Bytes} {lv : Nat} {T : Bytes} {e : List (Int × Int)} {P : Pcs} (h : Written ns lv T e P) : T ≠ [] := by
  obtain ⟨w, g, Q, b, l, h1, h2, _⟩ := h.head
  rw [← h.text, h1, h2]
  simp [textP]
theorem ex_all (U : Wup) (hU : U.Ok) : ∀ (x : Ex), x.wf → x.flat.all (fun t => argB t U.ns.length) = true → CO U x ∧ EX U x
  | .leaf t, hw, ha => by
    have ht := sized_short (text_sized hU.good (.leaf t) hw ha) (Nat.le_refl _)
    have hC : CO U (.leaf t) := co_any U hU (.leaf t) [] rfl _ rfl (by show 0 ≤ arF t.1; have : arF t.1 = 0 := hw; omega)
      (fun _ => ⟨rfl, fun w l ys h hl => aloneW U hU t hw (all_cons ha).1 w l ys h hl⟩)
      (fun h => by have : arF t.1 = 0 := hw; change arF t.1 = 1 at h; omega) (fun h => by have : arF t.1 = 0 := hw; change arF t.1 = 2 at h; omega) (fun h => by have : arF t.1 = 0 := hw; change arF t.1 = 3 at h; omega)
    exact ⟨hC, ex_of U hU _ hC ht⟩
  | .un t a, hw, ha => by
    have ht := sized_short (text_sized hU.good (.un t a) hw ha) (Nat.le_refl _)
    obtain ⟨_, a2⟩ := all_cons ha
    obtain ⟨ca, ea⟩ := ex_all U hU a hw.2 a2
    have hta := sized_short (text_sized hU.good a hw.2 a2) (Nat.le_refl _)
    have hC : CO U (.un t a) := co_any U hU (.un t a) a.flat rfl _ rfl (by show 0 ≤ arF t.1; have := hw.1; omega)
      (fun h => by have := hw.1; change arF t.1 = 0 at h; omega)
      (fun _ w l ys h hl => oneW U hU t a hw.1 ea (br_of U a ca) hta w l ys h hl)
      (fun h => by have := hw.1; change arF t.1 = 2 at h; omega) (fun h => by have := hw.1; change arF t.1 = 3 at h; omega)
    exact ⟨hC, ex_of U hU _ hC ht⟩
  | .bi t a b, hw, ha => by
    have ht := sized_short (text_sized hU.good (.bi t a b) hw ha) (Nat.le_refl _)
    obtain ⟨_, a2⟩ := all_cons ha
    obtain ⟨a3, a4⟩ := all_app a2
    obtain ⟨ca, ea⟩ := ex_all U hU a hw.2.1 a3
    obtain ⟨cb, eb⟩ := ex_all U hU b hw.2.2 a4
    have hta := sized_short (text_sized hU.good a hw.2.1 a3) (Nat.le_refl _)
    have hC : CO U (.bi t a b) := co_any U hU (.bi t a b) (a.flat ++ b.flat) rfl _ rfl (by show 0 ≤ arF t.1; have := hw.1; omega)
      (fun h => by have := hw.1; change arF t.1 = 0 at h; omega) (fun h => by have := hw.1; change arF t.1 = 1 at h; omega)
      (fun _ w l ys h hl => twoW U hU t a b hw.1 ea eb hta (flat_pos a) w l ys h hl)
      (fun h => by have := hw.1; change arF t.1 = 3 at h; omega)
    exact ⟨hC, ex_of U hU _ hC ht⟩
  | .cond t c a b, hw, ha => by
    have ht := sized_short (text_sized hU.good (.cond t c a b) hw ha) (Nat.le_refl _)
    obtain ⟨_, a2⟩ := all_cons ha
    obtain ⟨a3, a4⟩ := all_app a2
    obtain ⟨a5, a6⟩ := all_app a4
    obtain ⟨cc, ec⟩ := ex_all U hU c hw.2.1 a3
    obtain ⟨ca, ea⟩ := ex_all U hU a hw.2.2.1 a5
    obtain ⟨cb, eb⟩ := ex_all U hU b hw.2.2.2 a6
    have htc := sized_short (text_sized hU.good c hw.2.1 a3) (Nat.le_refl _)
    have hta := sized_short (text_sized hU.good a hw.2.2.1 a5) (Nat.le_refl _)
    have hC : CO U (.cond t c a b) := co_any U hU (.cond t c a b) (c.flat ++ (a.flat ++ b.flat)) rfl _ rfl (by show 0 ≤ arF t.1; have := hw.1; omega)
      (fun h => by have := hw.1; change arF t.1 = 0 at h; omega) (fun h => by have := hw.1; change arF t.1 = 1 at h; omega) (fun h => by have := hw.1; change arF t.1 = 2 at h; omega)
      (fun _ w l ys h hl => threeW U t c a b ec ea eb htc hta (flat_pos c) (flat_pos a) w l ys h hl)
    exact ⟨hC, ex_of U hU _ hC ht⟩
/-- what the laws' worlds hold of the program's and the library's variables -/
structure Lay6 (w : World) : Prop where
  words : Wd w
  tab : Tb w
theorem Lay6.below {w w' : World} {B : Nat} (h : Lay6 w) (hb : Below B w w') (hB : w.heap.size ≤ B) : Lay6 w' := ⟨h.words.below hb hB, h.tab.below hb hB⟩
theorem wnew (w : World) (b o : Nat) (c : Nat) (xs : List (Int × Int)) (na : Option Addr) (nc : Nat) (ns : List Bytes) (hc : xs.length ≤ c) : WIs ⟨w, b, o, xs, na, nc, ns⟩ (w.alloc (.cells #[.pointer none, .slice none 0 0, .slice (some ⟨b, o, none⟩) xs.length c, .slice na ns.length nc] 72)) [] xs :=
  .inl ⟨below_alloc6 _ _, _, _, c, heap_alloc_new w _, World.ownsRow_nil _ _ _ _, hc, 0, by simp, rfl, fun _ => by simp⟩
set_option maxHeartbeats 2000000 in
theorem formatP_bad (a : Option Addr) (c : Nat) (xs : List (Int × Int)) (na : Option Addr) (nc : Nat) (ns : List Bytes) (w : World) (hX : LinksAt w a xs) (hN : NamesAt w na ns) (hc : ns.length ≤ nc) (hn : ns.length ≤ 10) (hx : xs.length ≤ 250) (hf : fairE xs ns = false) :
    Calls Tryz.prog 20 #[.slice a xs.length c, .slice na ns.length nc] w fun e w' => e = .returned (.tuple #[.string (mkS []), .int .i64 7]) ∧ Below w.heap.size w w' := by
  have HG := Lib.hid (goodP_any na nc ns w hN hc (by omega))
  have HV := Lib.hid (validP_any a c xs ns.length w hX (by omega) (by unfold I64; omega))
  unfold fairE at hf
  clear hX hN hc hn hx
  generalize xs.length = m at *
  generalize validE xs ns.length = v at *
  generalize ns.length = nn at *
  cases hg : goodF ns with
  | false =>
    rw [hg] at HG
    clear HV hf hg
    go_enter Tryz.func20, Tryz.ntmps20
    go_wp2_with (go_at_call 33; refine HG.out.mono ?_; rintro e w1 ⟨rfl, rfl⟩)
    go_ret2
    exact ⟨rfl, Below.refl _ _⟩
  | true =>
    rw [hg] at HG
    rw [hg, Bool.true_and] at hf
    subst hf
    clear hg
    go_enter Tryz.func20, Tryz.ntmps20
    go_wp2_with (first | (go_at_call 33; refine HG.out.mono ?_; rintro e w1 ⟨rfl, rfl⟩) | (go_at_call 36; refine HV.out.mono ?_; rintro e w2 ⟨rfl, hb2⟩))
    go_ret2
    exact ⟨rfl, hb2⟩
set_option maxHeartbeats 2000000 in
theorem formatP_ok (a : Option Addr) (c : Nat) (xs : List (Int × Int)) (na : Option Addr) (nc : Nat) (ns : List Bytes) (w : World) (hX : LinksAt w a xs) (hN : NamesAt w na ns) (hc : ns.length ≤ nc) (hf : fairE xs ns = true) (x : Ex) (hx : x.flat = xs) (hw : x.wf) (hcap : xs.length ≤ c) (hL : Lay6 w) :
    Calls Tryz.prog 20 #[.slice a xs.length c, .slice na ns.length nc] w fun e w' => e = .returned (.tuple #[.string (mkS (x.text ns)), .int .i64 0]) ∧ Below w.heap.size w w' := by
  have hf2 := hf
  unfold fairE at hf2
  rw [Bool.and_eq_true] at hf2
  obtain ⟨hg, hv⟩ := hf2
  obtain ⟨hv0, hv200⟩ := valid_few hv
  have hns := good_few hg
  have HG := Lib.hid (goodP_any na nc ns w hN hc (by omega))
  have HV := Lib.hid (validP_any a c xs ns.length w hX (by omega) (by unfold I64; omega))
  rw [hg] at HG
  rw [hv] at HV
  obtain ⟨b, o, rfl, _⟩ := hX.row hv0
  have ha : x.flat.all (fun t => argB t ns.length) = true := by
    rw [hx]
    unfold validE at hv
    simp only [Bool.and_eq_true, decide_eq_true_eq] at hv
    exact hv.2
  have hsz := text_sized hg x hw ha
  have hlen := sized_short hsz (n := 200) (by rw [hx]; omega)
  have hne : x.text ns ≠ [] := by
    obtain ⟨P, hP, _⟩ := hsz
    exact written_ne hP
  have HE : Hid (∀ W, Below w.heap.size w W → Calls Tryz.prog 41 #[.pointer (some ⟨W.heap.size, 0, none⟩), .int .i64 0] (W.alloc (.cells #[.pointer none, .slice none 0 0, .slice (some ⟨b, o, none⟩) xs.length c, .slice na ns.length nc] 72)) fun e w' => e = .returned (.tuple #[]) ∧ WIs ⟨W, b, o, xs, na, nc, ns⟩ w' (x.text ns) []) := Lib.hid (fun W hb => by
    have hU : (Wup.mk W b o xs na nc ns).Ok := ⟨hX.below hb, hN.below hb rfl, hL.words.below hb (Nat.le_refl _), hL.tab.below hb (Nat.le_refl _), hg, by show xs.length ≤ 1000; omega⟩
    have hE := (ex_all _ hU x hw ha).2
    have := hE 0 _ [] [] 0 rfl (by omega) (by rw [hx, List.append_nil]; exact wnew W b o c xs na nc ns hcap) (by rw [hx]; simp; omega)
    rw [List.nil_append, brk_no (by have := (lv_pos x.top.1).1; unfold Ex.lv; omega)] at this
    exact this)
  have HLn := Lib.hid (fun W W' (hW : WIs ⟨W, b, o, xs, na, nc, ns⟩ W' (x.text ns) []) => wlen_any ⟨W, b, o, xs, na, nc, ns⟩ W' (x.text ns) [] hW)
  have HSt := Lib.hid (fun W W' (hW : WIs ⟨W, b, o, xs, na, nc, ns⟩ W' (x.text ns) []) => wstring_any ⟨W, b, o, xs, na, nc, ns⟩ W' (x.text ns) [] hW hne)
  have HBl : Hid (∀ W W', WIs ⟨W, b, o, xs, na, nc, ns⟩ W' (x.text ns) [] → Below W.heap.size W W') := Lib.hid (fun W W' hW => by
    obtain ⟨p, h⟩ := hW.at_
    exact h.bel)
  have hlt : decide ((16384 : Int) < ((x.text ns).length : Int)) = false := by simp; omega
  have hlt2 : ¬ ((16384 : Int) < ((x.text ns).length : Int)) := by omega
  clear hX hN hc hf hg hv hx hw ha hsz hlen hcap hL hne
  dsimp only at HLn HSt
  generalize mkS (x.text ns) = z at *
  generalize (x.text ns).length = tl at *
  generalize x.text ns = T at *
  generalize hxs : xs.length = m at *
  generalize hnn : ns.length = nn at *
  go_enter Tryz.func20, Tryz.ntmps20
  go_wp2_with (first | (go_at_call 33; refine HG.out.mono ?_; rintro e w1 ⟨rfl, rfl⟩) | (go_at_call 36; refine HV.out.mono ?_; rintro e w2 ⟨rfl, hb2⟩) | (go_at_call 41; refine (HE.out _ hb2).mono ?_; rintro e w3 ⟨rfl, h3⟩) | (go_at_call 42; refine (HLn.out _ _ h3).mono ?_; rintro e w4 ⟨rfl, rfl⟩) | (go_at_call 43; refine (HSt.out _ _ h3).mono ?_; rintro e w5 ⟨rfl, hb5⟩))
  go_ret2
  exact ⟨rfl, (hb2.trans ((HBl.out _ _ h3).mono hb2.size)).trans (hb5.mono hb2.size)⟩
end Go.Proofs.YtdbahiepihkagaaGreatDoor
namespace Go.Proofs.YtdbahiepihkagaaGreatDoor
set_option maxRecDepth 100000
open Go.RowKit Go.ChangeShapes Go.WideShapes

section
variable {H : Type} {enc : TypeId × Value → H} {P : Program} {w : World} {base : Nat} {spare : Nat → Bool} {held : Bool}
theorem names_of {t e : TypeId} {fuel : Nat} {v : Value} {x : DataW H × List MemPlace} (ht : P.underlying t = some (.slice e)) (he : P.underlying e = some .string) (hc : P.cellsOf e = 1)
    (h : DataW.trod enc P w base spare held fuel t [v] = some x) : ∃ a l c ns, v = .slice a l c ∧ l = ns.length ∧ NamesAt w a ns ∧ l ≤ c := by
  rcases open_strings ht he hc h with ⟨hcs, _⟩ | ⟨a, len, cap, ss, hcs, _, hl, hm, hz, _, hcell, _⟩
  · exact ⟨none, 0, 0, [], by simpa using hcs, rfl, ⟨Nat.zero_le _, fun h0 => absurd h0 (by simp)⟩, Nat.le_refl _⟩
  · have hsl : len ≤ ss.length := by rw [hz]; split <;> omega
    have hlen : ((ss.take len).map fun s => s.data.toList).length = len := by simp; omega
    refine ⟨some a, len, cap, (ss.take len).map fun s => s.data.toList, by simpa using hcs, hlen.symm, ⟨by omega, fun h0 => ?_⟩, hl⟩
    rw [hlen] at h0
    have h1 := hcell 0 (by omega)
    have hs := World.cell?_spot h1
    obtain ⟨b, o, s⟩ := a
    simp only [Addr.add] at hs
    subst hs
    refine ⟨b, o, rfl, cell_lt h1, fun i hi => ?_⟩
    rw [hlen] at hi
    have h2 := hcell i (by omega)
    rw [add_none] at h2
    rw [h2]
    congr 2
    rw [List.getD_eq_getElem?_getD, List.getD_eq_getElem?_getD, List.getElem?_map, List.getElem?_take_of_lt hi, List.getElem?_eq_getElem (by omega : i < ss.length)]
    show ss[i] = mkS ss[i].data.toList
    rw [mkS_data]
end
section
open Go.ChangeAt Go.Deep Go.Joins
variable {H : Type} {enc : TypeId × Value → H} {P : Program} {w : World} {base : Nat} {spare : Nat → Bool} {held : Bool}
theorem links_cap6 {t e : TypeId} {fuel : Nat} {a : Option Addr} {l c : Nat} {x : DataW H × List MemPlace} (ht : P.underlying t = some (.slice e)) (h : DataW.trod enc P w base spare held fuel t [.slice a l c] = some x) : l ≤ c := by
  rcases open_slice ht h with ⟨hcs, _⟩ | ⟨a', len, cap, m, n, D, Pl, hcs, _, hl, _⟩
  · simp at hcs
    omega
  · simp at hcs
    omega
end
theorem wf_u8e {z : Int} (h : (Lit.int .u8 z).wf = true) : 0 ≤ z ∧ z ≤ 255 := by
  simpa [Lit.wf, IntKind.min, IntKind.max, IntKind.signed, IntKind.bits] using h
/-- what light answers -/
def lightN (ns : List Bytes) : Bool := decide (ns.length ≤ 10) && ns.all fun l => decide (l.length ≤ 40)
set_option maxHeartbeats 1000000 in
theorem lightN_any (a : Option Addr) (c : Nat) (ns : List Bytes) (w : World) (hN : NamesAt w a ns) :
    Calls Tryz.prog 14 #[.slice a ns.length c] w fun e w' => e = .returned (.bool (lightN ns)) ∧ w' = w := by
  have HX := Lib.hid hN
  obtain ⟨z, hz⟩ : ∃ z, z = lightN ns := ⟨_, rfl⟩
  have HZ := Lib.hid hz
  have HBad : Hid (∀ k, k < ns.length → 40 < (ns.getD k []).length → z = false) := Lib.hid (fun k hk h => by
    rw [hz, Bool.eq_false_iff]
    intro ht
    unfold lightN at ht
    rw [Bool.and_eq_true, List.all_eq_true] at ht
    have := ht.2 (ns.getD k []) (by rw [List.getD_eq_getElem?_getD, List.getElem?_eq_getElem hk]; exact List.getElem_mem hk)
    simp at this
    simp at h
    omega)
  have HOk : Hid (ns.length ≤ 10 → (∀ j, j < ns.length → (ns.getD j []).length ≤ 40) → z = true) := Lib.hid (fun h h2 => by
    rw [hz]
    unfold lightN
    rw [Bool.and_eq_true, List.all_eq_true, decide_eq_true_eq]
    refine ⟨h, fun l hl => ?_⟩
    obtain ⟨i, hi, rfl⟩ := List.mem_iff_getElem.1 hl
    have := h2 i hi
    rw [List.getD_eq_getElem?_getD, List.getElem?_eq_getElem hi] at this
    simpa using this)
  have HLong : Hid (10 < ns.length → z = false) := Lib.hid (fun h => by
    rw [hz]
    unfold lightN
    rw [decide_eq_false (by omega)]
    rfl)
  obtain ⟨m, hm⟩ : ∃ m, m = ns.length := ⟨_, rfl⟩
  have HM := Lib.hid hm
  rw [← hz, ← hm]
  rw [← hm] at HBad HOk HLong
  clear hz hm hN HZ
  by_cases h10 : 10 < m
  · have hz := HLong.out h10
    subst hz
    go_enter Tryz.func14, Tryz.ntmps14
    go_wp2
    go_ret
    exact ⟨rfl, rfl⟩
  go_enter Tryz.func14, Tryz.ntmps14
  go_wp2
  go_loop [3] (fun t => ∃ k : Nat, t = .int .i64 k ∧ k ≤ m ∧ (∀ j, j < k → (ns.getD j []).length ≤ 40)) (fun t => m - (intOf t).toNat)
  case atStart => exact ⟨0, rfl, Nat.zero_le _, (fun j h => by omega)⟩
  case round =>
    obtain ⟨k, rfl, hk, hlow⟩ := hrel
    have HL := Lib.hid hlow
    clear hlow
    by_cases hlt : k < m
    · obtain ⟨b, o, rfl, hb, hc⟩ := HX.out.row (by rw [← HM.out]; omega)
      have hcell := hc k (by rw [← HM.out]; exact hlt)
      have HSz := Lib.hid (mkS_size (ns.getD k []))
      have hbad := HBad.out k hlt
      have HStep : Hid ((ns.getD k []).length ≤ 40 → ∀ j, j < k + 1 → (ns.getD j []).length ≤ 40) := Lib.hid (fun h j hj => by
        rcases Nat.lt_or_ge j k with h1 | h1
        · exact HL.out j h1
        · obtain rfl : j = k := by omega
          exact h)
      clear hc
      generalize mkS (ns.getD k []) = s at *
      generalize (ns.getD k []).length = q at *
      have hsz := HSz.out
      by_cases h40 : 40 < q
      · have hz := hbad h40
        subst hz
        have d : (40 : Int) < (s.size : Int) := by omega
        clear hbad hsz
        go_wp2
        go_ret
        exact ⟨rfl, rfl⟩
      · have d : decide ((40 : Int) < (s.size : Int)) = false := by simp; omega
        clear hbad hsz
        go_wp2
        go_round
        case rel => exact ⟨k + 1, by go_num, by omega, HStep.out (by omega)⟩
        case measure => simp [intOf]; omega
    · have hz : z = true := HOk.out (by omega) (fun j hj => HL.out j (by omega))
      subst hz
      go_wp2
      go_ret
      exact ⟨rfl, rfl⟩
end Go.Proofs.YtdbahiepihkagaaGreatDoor
