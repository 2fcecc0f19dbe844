/- expression, brackets, one, two and three of the program's writer. -/
import Derived.Test.YtokmehjofboflaaGreatDoorExprWb
import Derived.Test.YtokmehjofboflaaGreatDoorShelf
import Derived.Test.YtokmehjofboflaaGreatDoorTermBw
import Derived.Lib.AppendIntMem
import Derived.Deep.RegionWith
namespace Go.Proofs.YtokmehjofboflaaGreatDoor
set_option maxRecDepth 100000
open Go.RowKit

theorem dec_digits6 (n : Nat) : Lib.decDigits n = decB n := by
  induction n using Nat.strongRecOn with
  | ind n ih =>
    rw [Lib.decDigits]
    by_cases h : n < 10
    · rw [dif_pos h, dec_small h]; rfl
    · rw [dif_neg h, dec_big (by omega), ih (n / 10) (by omega)]; rfl
theorem itoa6 (n : Nat) (hn : n ≤ 1073741824) (w : World) (hT : Tb w) :
    Calls Tryz.prog 104 #[.int .i64 (n : Int)] w fun e w' => e = .returned (.string (mkS (decB n))) ∧ Below w.heap.size w w' := by
  refine (Tryz.strconv_Itoa (n : Int) (by omega) (by omega) w hT).mono ?_
  rintro e w' ⟨rfl, k, os, rfl⟩
  exact ⟨by rw [Lib.itoa_nonneg, dec_digits6]; rfl, Lib.below_grow _ w (Nat.le_refl _) k os⟩
/-- what a writing call does -/
def Wrote (U : Wup) (l : Bytes) (ys : List (Int × Int)) (e : Ending) (w' : World) : Prop := e = .returned (.tuple #[]) ∧ WIs U w' l ys
theorem WIs.tab {U : Wup} (hU : U.Ok) {w : World} {l : Bytes} {ys : List (Int × Int)} (h : WIs U w l ys) : Tb w := by
  obtain ⟨p, h⟩ := h.at_
  exact hU.tab.below h.bel (Nat.le_refl _)
theorem WIs.words {U : Wup} (hU : U.Ok) {w : World} {l : Bytes} {ys : List (Int × Int)} (h : WIs U w l ys) : Wd w := by
  obtain ⟨p, h⟩ := h.at_
  exact hU.words.below h.bel (Nat.le_refl _)
theorem WIs.cells {U : Wup} {w : World} {l : Bytes} {ys : List (Int × Int)} (h : WIs U w l ys) : U.W0.heap.size < w.heap.size ∧ (∃ a c, w.cell? ⟨U.W0.heap.size, 2, none⟩ = some (.slice a ys.length c) ∧ ys.length ≤ c ∧ ∃ k, k + ys.length = U.xs.length ∧ ys = U.xs.drop k ∧ (0 < ys.length → a = some ⟨U.xb, U.xo + k * 2, none⟩)) ∧ w.cell? ⟨U.W0.heap.size, 3, none⟩ = some (.slice U.na U.ns.length U.nc) ∧ w.frozen? ⟨U.W0.heap.size, 2, none⟩ = false := by
  obtain ⟨p, h⟩ := h.at_
  obtain ⟨v, a, c, hb, _, hc, hk⟩ := h.blk
  exact ⟨h.lt, ⟨a, c, by rw [Lib.cell_of_heap hb]; rfl, hc, hk⟩, by rw [Lib.cell_of_heap hb]; rfl, Lib.frozen_of_heap hb 2⟩
set_option maxHeartbeats 4000000 in
theorem aloneW (U : Wup) (hU : U.Ok) (t : Int × Int) (hw : arF t.1 = 0) (ha : argB t U.ns.length = true) (w : World) (l : Bytes) (ys : List (Int × Int)) (h : WIs U w l ys) (hl : l.length ≤ 500000) :
    Calls Tryz.prog 64 #[.pointer (some ⟨U.W0.heap.size, 0, none⟩), .agg #[.int .i64 t.1, .int .i64 t.2]] w (Wrote U (l ++ leafT U.ns t) ys) := by
  have hr := ar_leaf hw
  have HI := Lib.hid (fun W (hb : Below w.heap.size w W) => h.far hb)
  have hlt := h.cells.1
  obtain ⟨op, arg⟩ := t
  dsimp only at hr
  have hba := below_alloc6 w (.cells #[.int .i64 op, .int .i64 arg] 38)
  unfold leafT Wrote
  dsimp only
  by_cases h1 : op = 1
  · subst h1
    rw [if_pos rfl]
    unfold argB at ha
    dsimp only at ha
    rw [if_pos rfl, decide_eq_true_eq] at ha
    obtain ⟨n, rfl⟩ : ∃ n : Nat, arg = (n : Int) := ⟨arg.toNat, by omega⟩
    rw [Int.toNat_natCast]
    have hdl := dec_len (n := n) (by omega)
    have HD := Lib.hid (fun W (hT : Tb W) => itoa6 n (by omega) W hT)
    have HS := Lib.hid (fun W (hW : WIs U W l ys) => wstr_any U W l ys hW (decB n) (by omega) (mkS (decB n)) rfl)
    have HT := Lib.hid (fun W (hW : WIs U W l ys) => hW.tab hU)
    clear ha hU hl hdl
    generalize mkS (decB n) = Y at *
    generalize decB n = y at *
    generalize hpb : U.W0.heap.size = pb at *
    have q1 : (w.alloc (.cells #[.int .i64 1, .int .i64 (n : Int)] 38)).cell? ⟨w.heap.size, 1, none⟩ = some (.int .i64 (n : Int)) := World.cell?_alloc_new w _ _ 1
    go_enter Tryz.func64, Tryz.ntmps64
    go_wp2
    obtain ⟨W1, hW1⟩ : ∃ W1, W1 = w.alloc (.cells #[.int .i64 1, .int .i64 (n : Int)] 38) := ⟨_, rfl⟩
    rw [← hW1] at q1 hba ⊢
    clear hW1
    have hI1 := HI.out _ hba
    have hT1 := HT.out _ hI1
    go_region_with (first | (go_at_call 104; refine (HD.out _ (by first | exact hT1 | exact HT.out _ (HI.out _ (belDraws hba _)))).mono ?_; rintro e w2 ⟨rfl, hb2⟩; have hI2 := HI.out _ (Below.trans (by first | exact hba | exact belDraws hba _) (hb2.mono (by first | exact hba.size | exact (belDraws hba _).size)))) | (go_at_call 103; refine (HS.out _ hI2).mono ?_; rintro e w3 ⟨rfl, hI3⟩))
    go_wp2_with fail
    go_end0
    exact ⟨rfl, hI3⟩
  rw [if_neg h1]
  have d1 : (op == 1) = false := by simpa using h1
  by_cases h5 : op = 5
  · subst h5
    rw [if_pos rfl]
    unfold argB at ha
    dsimp only at ha
    rw [if_neg (by decide), if_pos (.inl rfl), decide_eq_true_eq] at ha
    obtain ⟨n, rfl⟩ : ∃ n : Nat, arg = (n : Int) := ⟨arg.toNat, by omega⟩
    rw [Int.toNat_natCast]
    have hI1 := HI.out _ hba
    obtain ⟨p1, hA1⟩ := hI1.at_
    obtain ⟨nb, no, hna, _, hnc⟩ := (hU.names.below hA1.bel rfl).row (by omega)
    have hcn := hnc n (by omega)
    obtain ⟨_, _, k3, _⟩ := hI1.cells
    rw [hna] at k3
    have r0 : (0 : Int) ≤ (n : Int) := by omega
    have r1 : (n : Int) < (U.ns.length : Int) := by omega
    have hl24 := (name_word (good_at hU.good (i := n) (by omega)).1).len
    have HS := Lib.hid (fun W (hW : WIs U W l ys) => wstr_any U W l ys hW (U.ns.getD n []) (by omega) (mkS (U.ns.getD n [])) rfl)
    clear ha hU hl hl24 hnc hna hA1
    generalize mkS (U.ns.getD n []) = Y at *
    generalize U.ns.getD n [] = y at *
    generalize U.ns.length = nn at *
    generalize hpb : U.W0.heap.size = pb at *
    have q1 : (w.alloc (.cells #[.int .i64 5, .int .i64 (n : Int)] 38)).cell? ⟨w.heap.size, 1, none⟩ = some (.int .i64 (n : Int)) := World.cell?_alloc_new w _ _ 1
    go_enter Tryz.func64, Tryz.ntmps64
    go_wp2
    obtain ⟨W1, hW1⟩ : ∃ W1, W1 = w.alloc (.cells #[.int .i64 5, .int .i64 (n : Int)] 38) := ⟨_, rfl⟩
    rw [← hW1] at q1 hI1 k3 hcn ⊢
    clear hW1
    have HI1 := Lib.hid (fun m => hI1.far (belDraws (Below.refl _ _) m))
    go_region_with (go_at_call 103; refine (HS.out _ (by first | exact hI1 | exact HI1.out _)).mono ?_; rintro e w3 ⟨rfl, hI3⟩)
    all_goals (go_wp2_with fail; go_end0; exact ⟨rfl, hI3⟩)
  rw [if_neg h5]
  have d5 : (op == 5) = false := by simpa using h5
  by_cases h12 : op = 12
  · subst h12
    rw [if_pos rfl]
    unfold argB at ha
    dsimp only at ha
    rw [if_neg (by decide), if_pos (.inr rfl), decide_eq_true_eq] at ha
    obtain ⟨n, rfl⟩ : ∃ n : Nat, arg = (n : Int) := ⟨arg.toNat, by omega⟩
    rw [Int.toNat_natCast]
    have hI1 := HI.out _ hba
    obtain ⟨p1, hA1⟩ := hI1.at_
    obtain ⟨nb, no, hna, _, hnc⟩ := (hU.names.below hA1.bel rfl).row (by omega)
    have hcn := hnc n (by omega)
    obtain ⟨_, _, k3, _⟩ := hI1.cells
    rw [hna] at k3
    have r0 : (0 : Int) ≤ (n : Int) := by omega
    have r1 : (n : Int) < (U.ns.length : Int) := by omega
    have hl24 := (name_word (good_at hU.good (i := n) (by omega)).1).len
    have hadd : ∀ W, (Op.stringOp .add ⟨#[113, 46]⟩ (mkS (U.ns.getD n []))).run Tryz.prog W = .ok (.string (mkS (113 :: 46 :: U.ns.getD n []))) W := fun W => mkS_add [113, 46] _ (by simp) (by omega) W
    have HS := Lib.hid (fun W (hW : WIs U W l ys) => wstr_any U W l ys hW (113 :: 46 :: U.ns.getD n []) (by rw [List.length_cons, List.length_cons]; omega) (mkS (113 :: 46 :: U.ns.getD n [])) rfl)
    clear ha hU hl hl24 hnc hna hA1
    generalize mkS (113 :: 46 :: U.ns.getD n []) = Z at *
    generalize mkS (U.ns.getD n []) = Y at *
    generalize U.ns.getD n [] = y at *
    generalize U.ns.length = nn at *
    generalize hpb : U.W0.heap.size = pb at *
    have q1 : (w.alloc (.cells #[.int .i64 12, .int .i64 (n : Int)] 38)).cell? ⟨w.heap.size, 1, none⟩ = some (.int .i64 (n : Int)) := World.cell?_alloc_new w _ _ 1
    go_enter Tryz.func64, Tryz.ntmps64
    go_wp2
    obtain ⟨W1, hW1⟩ : ∃ W1, W1 = w.alloc (.cells #[.int .i64 12, .int .i64 (n : Int)] 38) := ⟨_, rfl⟩
    rw [← hW1] at q1 hI1 k3 hcn ⊢
    clear hW1
    have HI1 := Lib.hid (fun m => hI1.far (belDraws (Below.refl _ _) m))
    go_region_with (go_at_call 103; refine (HS.out _ (by first | exact hI1 | exact HI1.out _)).mono ?_; rintro e w3 ⟨rfl, hI3⟩)
    all_goals (go_wp2_with fail; go_end0; exact ⟨rfl, hI3⟩)
  rw [if_neg h12]
  have d12 : (op == 12) = false := by simpa using h12
  obtain ⟨k, rfl⟩ : ∃ k : Nat, op = (k : Int) := ⟨op.toNat, by omega⟩
  have hI1 := HI.out _ hba
  have hcw := (hI1.words hU).at_ k (by omega)
  have r0 : (0 : Int) ≤ (k : Int) := by omega
  have r1 : (k : Int) < 43 := by omega
  have hwl : (wordF (k : Int)).length ≤ 8 := by
    have : ∀ j : Nat, j < 44 → (wordF (j : Int)).length ≤ 8 := by decide
    exact this k (by omega)
  have HS := Lib.hid (fun W (hW : WIs U W l ys) => wstr_any U W l ys hW (wordF (k : Int)) (by omega) (mkS (wordF (k : Int))) rfl)
  clear ha hU hl hwl h1 h5 h12 hw
  generalize mkS (wordF (k : Int)) = Y at *
  generalize wordF (k : Int) = y at *
  generalize hpb : U.W0.heap.size = pb at *
  have q1 : (w.alloc (.cells #[.int .i64 (k : Int), .int .i64 arg] 38)).cell? ⟨w.heap.size, 0, none⟩ = some (.int .i64 (k : Int)) := World.cell?_alloc_new w _ _ 0
  go_enter Tryz.func64, Tryz.ntmps64
  go_wp2
  obtain ⟨W1, hW1⟩ : ∃ W1, W1 = w.alloc (.cells #[.int .i64 (k : Int), .int .i64 arg] 38) := ⟨_, rfl⟩
  rw [← hW1] at q1 hI1 hcw ⊢
  clear hW1
  have HI1 := Lib.hid (fun m => hI1.far (belDraws (Below.refl _ _) m))
  go_region_with (go_at_call 103; refine (HS.out _ (by first | exact hI1 | exact HI1.out _)).mono ?_; rintro e w3 ⟨rfl, hI3⟩)
  all_goals (go_wp2_with fail; go_end0; exact ⟨rfl, hI3⟩)
end Go.Proofs.YtokmehjofboflaaGreatDoor
namespace Go.Proofs.YtokmehjofboflaaGreatDoor
set_option maxRecDepth 100000
open Go.RowKit

theorem WIs.top {U : Wup} (hU : U.Ok) {w : World} {l : Bytes} {t : Int × Int} {ys : List (Int × Int)} (h : WIs U w l (t :: ys)) : ∃ b o c, w.cell? ⟨U.W0.heap.size, 2, none⟩ = some (.slice (some ⟨b, o, none⟩) (ys.length + 1) c) ∧ ys.length + 1 ≤ c ∧ b < U.W0.heap.size ∧ w.cell? ⟨b, o, none⟩ = some (.int .i64 t.1) ∧ w.cell? ⟨b, o + 1, none⟩ = some (.int .i64 t.2) ∧ w.frozen? ⟨U.W0.heap.size, 2, none⟩ = false ∧
    ∀ (w' : World) (a' : Option Addr) (c' : Nat), Below w.heap.size w w' → ys.length ≤ c' → (0 < ys.length → a' = some ⟨b, o + 2, none⟩) → WIs U (w'.setCell ⟨U.W0.heap.size, 2, none⟩ (.slice a' ys.length c')) l ys := by
  obtain ⟨hl, ⟨a, c, e1, e2, k, hk, hy, ha⟩, _, hf⟩ := h.cells
  have hak := ha (by simp)
  subst hak
  obtain ⟨p, hA⟩ := h.at_
  obtain ⟨b', o', e, hlt, hc⟩ := hU.links.row (by simp at hk; omega)
  injection e with e
  injection e with e3 e4
  subst e3 e4
  have hkl : k < U.xs.length := by simp at hk; omega
  have htk : U.xs[k]? = some t := by
    have := congrArg List.head? hy
    rw [List.head?_drop] at this
    exact this.symm
  obtain ⟨c0, c1⟩ := hc k hkl
  unfold toA at c0
  unfold wtA at c1
  rw [List.getD_eq_getElem?_getD, htk] at c0 c1
  refine ⟨U.xb, U.xo + k * 2, c, e1, e2, hlt, (hA.bel.cell (p := ⟨_, _, none⟩) hlt).trans c0, (hA.bel.cell (p := ⟨_, _, none⟩) hlt).trans c1, hf, fun w' a' c' hb h1 h2 => ?_⟩
  refine (h.far hb).map fun q hq => ?_
  obtain ⟨v, a0, c0', hbk, hown, hcc, _⟩ := hq.blk
  refine ⟨hq.bel.setCell (p := ⟨U.W0.heap.size, 2, none⟩) (Nat.le_refl _) _, v, a', c', block_set hbk _, own_setBlock hown (Nat.lt_succ_self _) _, h1, k + 1, by simp at hk; omega, ?_, fun h0 => by rw [h2 h0, Nat.succ_mul, Nat.add_assoc]⟩
  have := congrArg List.tail hy
  rw [List.tail_drop] at this
  exact this
theorem lv_pos (op : Int) : 1 ≤ lvF op ∧ lvF op ≤ 8 := by
  unfold lvF
  repeat' split
  all_goals omega
/-- what expression does for a tree -/
def EX (U : Wup) (x : Ex) : Prop := ∀ (lo : Nat) (w : World) (l : Bytes) (ys : List (Int × Int)) (z : Int), z = (lo : Int) → lo ≤ 8 → WIs U w l (x.flat ++ ys) → l.length + 1 + 40 * (x.flat ++ ys).length ≤ 500000 →
  Calls Tryz.prog 28 #[.pointer (some ⟨U.W0.heap.size, 0, none⟩), .int .i64 z] w (Wrote U (l ++ brk (lo + 1) x.lv (x.text U.ns)) ys)
def BR (U : Wup) (x : Ex) : Prop := ∀ (w : World) (l : Bytes) (ys : List (Int × Int)), WIs U w l (x.flat ++ ys) → l.length + 1 + 40 * (x.flat ++ ys).length ≤ 500000 → (x.text U.ns).length ≤ 28 * x.flat.length →
  Calls Tryz.prog 62 #[.pointer (some ⟨U.W0.heap.size, 0, none⟩)] w (Wrote U (l ++ prn (x.text U.ns)) ys)
/-- expression where no brackets are wanted -/
def CO (U : Wup) (x : Ex) : Prop := ∀ (lo : Nat) (w : World) (l : Bytes) (ys : List (Int × Int)) (z : Int), z = (lo : Int) → lo ≤ 8 → ¬ x.lv < lo + 1 → WIs U w l (x.flat ++ ys) → l.length + 40 * (x.flat ++ ys).length ≤ 500000 →
  Calls Tryz.prog 28 #[.pointer (some ⟨U.W0.heap.size, 0, none⟩), .int .i64 z] w (Wrote U (l ++ x.text U.ns) ys)
theorem brk_no {k n : Nat} {T : Bytes} (h : ¬ n < k) : brk k n T = T := by unfold brk; rw [if_neg h]
theorem brk_yes {k n : Nat} {T : Bytes} (h : n < k) : brk k n T = prn T := by unfold brk; rw [if_pos h]
set_option maxHeartbeats 1000000 in
theorem br_of (U : Wup) (x : Ex) (h0 : CO U x) : BR U x := by
  intro w l ys h hl hT
  have HB := Lib.hid (fun w l ys (h : WIs U w l ys) (hl : l.length ≤ 1000000) => wbyte_any U w l ys h hl 40 40 rfl)
  have HB2 := Lib.hid (fun w l ys (h : WIs U w l ys) (hl : l.length ≤ 1000000) => wbyte_any U w l ys h hl 41 41 rfl)
  have HE := Lib.hid (fun W (hW : WIs U W (l ++ [40]) (x.flat ++ ys)) => h0 0 W (l ++ [40]) ys 0 rfl (by omega) (by have := (lv_pos x.top.1).1; unfold Ex.lv; omega) hW (by rw [List.length_append]; simp at hl ⊢; omega))
  have HP := Lib.hid h
  have hlen : l.length ≤ 500000 := by omega
  have hlen2 : (l ++ [40] ++ x.text U.ns).length ≤ 1000000 := by
    simp at hl ⊢
    omega
  have e : l ++ prn (x.text U.ns) = (l ++ [40] ++ x.text U.ns) ++ [41] := by unfold prn; simp
  rw [e]
  have HL := Lib.hid hlen2
  clear h hl hT h0 e hlen2
  unfold Wrote at *
  generalize x.text U.ns = T at *
  generalize x.flat ++ ys = zs at *
  go_enter Tryz.func62, Tryz.ntmps62
  go_wp2_with (first
    | (go_at_call 102; first | ((with_reducible refine (HB.out _ _ _ HP.out (by omega)).mono ?_); rintro e w1 ⟨rfl, h1⟩) | ((with_reducible refine (HB2.out _ _ _ h2 HL.out).mono ?_); rintro e w3 ⟨rfl, h3⟩))
    | (go_at_call 28; refine (HE.out _ h1).mono ?_; rintro e w2 ⟨rfl, h2⟩))
  go_end0
  exact ⟨rfl, h3⟩
end Go.Proofs.YtokmehjofboflaaGreatDoor
