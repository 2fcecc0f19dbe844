/- What Text of the specification of layer 6 answers: two and three operands; all; Format. -/
import Derived.Test.YtdbahiepihkagaaGreatDoorExprPlace
import Derived.Test.YtdbahiepihkagaaGreatDoorCur
import Derived.Test.YtdbahiepihkagaaGreatDoorTermMost
namespace Go.Proofs.YtdbahiepihkagaaGreatDoor
set_option maxRecDepth 100000
open Go.RowKit

/-- an expression and names in memory -/
structure Src where
  w : World
  b : Nat
  o : Nat
  c : Nat
  xs : List (Int × Int)
  na : Option Addr
  nc : Nat
  ns : List Bytes
structure Src.Ok (S : Src) : Prop where
  links : LinksAt S.w (some ⟨S.b, S.o, none⟩) S.xs
  names : NamesAt S.w S.na S.ns
  good : goodF S.ns = true
  few : S.xs.length ≤ 1000
def Src.Text (S : Src) (p : Nat) (T : Bytes) : Prop := ∀ W, Below S.w.heap.size S.w W →
  Calls Tryz.prog 44 #[.slice (some ⟨S.b, S.o, none⟩) S.xs.length S.c, .int .i64 (p : Int), .slice S.na S.ns.length S.nc] W fun e w' => e = .returned (.string (mkS T)) ∧ Below W.heap.size W w'
def Src.Brk (S : Src) (p : Nat) (least : Nat) (T : Bytes) : Prop := ∀ W, Below S.w.heap.size S.w W →
  Calls Tryz.prog 93 #[.slice (some ⟨S.b, S.o, none⟩) S.xs.length S.c, .int .i64 (p : Int), .int .i64 (least : Int), .slice S.na S.ns.length S.nc] W fun e w' => e = .returned (.string (mkS T)) ∧ Below W.heap.size W w'
theorem Src.Ok.cells {S : Src} (h : S.Ok) {p : Nat} {x : Ex} (hs : Sits S.xs p x) {W : World} (hb : Below S.w.heap.size S.w W) :
    W.cell? ⟨S.b, S.o + p * 2, none⟩ = some (.int .i64 x.top.1) ∧ W.cell? ⟨S.b, S.o + p * 2 + 1, none⟩ = some (.int .i64 x.top.2) := by
  have hl := hs.lt
  obtain ⟨b, o, e, _, hc⟩ := (h.links.below hb).row (by omega)
  injection e with e
  injection e with e1 e2
  rw [e1, e2, ← hs.top.1, ← hs.top.2]
  exact hc p hl
set_option maxHeartbeats 1000000 in
theorem brk_any (S : Src) (hS : S.Ok) (p least : Nat) (x : Ex) (hs : Sits S.xs p x) (T : Bytes) (hT : S.Text p T) (hl : T.length ≤ 50000) : S.Brk p least (brk least x.lv T) := by
  intro W hW
  have HT := Lib.hid (hT W hW)
  have HC := Lib.hid (fun W' (h : Below W.heap.size W W') => (hS.cells hs (hW.trans (h.mono hW.size))).1)
  have hlv := levelE_any x.top.1
  have hlt := hs.lt
  have hfew := hS.few
  have q0 : (0 : Int) ≤ (p : Int) := by omega
  have q1 : (p : Int) < (S.xs.length : Int) := by omega
  have add1 : ∀ W, (Op.stringOp .add ⟨#[40]⟩ (mkS T)).run Tryz.prog W = .ok (.string (mkS (40 :: T))) W := fun W => mkS_add [40] T (by simp) (by omega) W
  have add2 : ∀ W, (Op.stringOp .add (mkS (40 :: T)) ⟨#[41]⟩).run Tryz.prog W = .ok (.string (mkS (prn T))) W := fun W => mkS_add (40 :: T) [41] (by simp; omega) (by simp) W
  unfold brk
  show Calls _ _ _ _ fun e w' => e = .returned (.string (mkS (if lvF x.top.1 < least then prn T else T))) ∧ _
  clear hT hS hs hW hl
  generalize mkS (40 :: T) = z1 at *
  generalize x.top.1 = op at *
  generalize lvF op = k at *
  generalize S.xs.length = m at *
  by_cases hk : k < least
  · rw [if_pos hk]
    have d : (k : Int) < (least : Int) := by omega
    generalize mkS (prn T) = z2 at *
    go_enter Tryz.func93, Tryz.ntmps93
    go_wp2_with (first
      | (go_at_call 44; refine HT.out.mono ?_; rintro e w1 ⟨rfl, hb1⟩; have hc1 := HC.out _ hb1)
      | (go_at_call 90; refine (hlv _).mono ?_; rintro e w2 ⟨rfl, rfl⟩))
    go_ret
    exact ⟨rfl, hb1⟩
  · rw [if_neg hk]
    have d : decide ((k : Int) < (least : Int)) = false := by simp; omega
    go_enter Tryz.func93, Tryz.ntmps93
    go_wp2_with (first
      | (go_at_call 44; refine HT.out.mono ?_; rintro e w1 ⟨rfl, hb1⟩; have hc1 := HC.out _ hb1)
      | (go_at_call 90; refine (hlv _).mono ?_; rintro e w2 ⟨rfl, rfl⟩))
    go_ret
    exact ⟨rfl, hb1⟩
theorem agg_no {op : Int} (h : ¬ (20 ≤ op ∧ op ≤ 29)) : aggF op = false := decide_eq_false h
theorem agg_yes {op : Int} (h : 20 ≤ op ∧ op ≤ 29) : aggF op = true := decide_eq_true h
set_option maxHeartbeats 2000000 in
theorem leaf_any (S : Src) (hS : S.Ok) (p : Nat) (t : Int × Int) (hs : Sits S.xs p (.leaf t)) (hw : arF t.1 = 0) (ha : argB t S.ns.length = true) : S.Text p (leafT S.ns t) := by
  intro W hW
  have hr := ar_leaf hw
  have hc0 := (hS.cells hs hW).1
  have hc1 := (hS.cells hs hW).2
  have hlv := levelE_any t.1
  have hag := fun W => aggR_any t.1 W
  rw [agg_no (by omega)] at hag
  rw [lv_leaf hr] at hlv
  have hlt := hs.lt
  have hfew := hS.few
  have q0 : (0 : Int) ≤ (p : Int) := by omega
  have q1 : (p : Int) < (S.xs.length : Int) := by omega
  have HN := Lib.hid (hS.names.below hW rfl)
  have HG := Lib.hid hS.good
  have hns := good_few hS.good
  have e8 : (((8 : Nat) : Int) == 4) = false := rfl
  have e7 : decide (((8 : Nat) : Int) < 7) = false := by decide
  obtain ⟨op, arg⟩ := t
  change W.cell? _ = some (.int .i64 op) at hc0
  change W.cell? _ = some (.int .i64 arg) at hc1
  dsimp only at hr hlv hag
  unfold leafT
  dsimp only
  clear hs hw hW hS
  generalize S.xs.length = m at *
  by_cases h1 : op = 1
  · subst h1
    rw [if_pos rfl]
    unfold argB at ha
    dsimp only at ha
    rw [if_pos rfl, decide_eq_true_eq] at ha
    obtain ⟨n, rfl⟩ : ∃ n : Nat, arg = (n : Int) := ⟨arg.toNat, by omega⟩
    rw [Int.toNat_natCast]
    have HD := Lib.hid (fun W => decimalE_any n W (by omega))
    generalize mkS (decB n) = z at *
    clear ha hag
    go_enter Tryz.func44, Tryz.ntmps44
    go_wp2_with (first
      | (go_at_call 90; refine (hlv _).mono ?_; rintro e w2 ⟨rfl, rfl⟩)
      | (go_at_call 91; refine (HD.out _).mono ?_; rintro e w3 ⟨rfl, hb3⟩))
    go_ret
    exact ⟨rfl, hb3⟩
  rw [if_neg h1]
  have d1 : (op == 1) = false := by simpa using h1
  by_cases h5 : op = 5
  · subst h5
    rw [if_pos rfl]
    unfold argB at ha
    dsimp only at ha
    rw [if_neg (by decide), if_pos (.inl rfl), decide_eq_true_eq] at ha
    obtain ⟨n, rfl⟩ : ∃ n : Nat, arg = (n : Int) := ⟨arg.toNat, by omega⟩
    rw [Int.toNat_natCast]
    obtain ⟨nb, no, hna, _, hnc⟩ := HN.out.row (by omega)
    have hcn := hnc n (by omega)
    have r0 : (0 : Int) ≤ (n : Int) := by omega
    have r1 : (n : Int) < (S.ns.length : Int) := by omega
    rw [hna]
    clear ha hag hnc hna
    generalize mkS (S.ns.getD n []) = z at *
    generalize S.ns.length = nn at *
    go_enter Tryz.func44, Tryz.ntmps44
    go_wp2_with (go_at_call 90; refine (hlv _).mono ?_; rintro e w2 ⟨rfl, rfl⟩)
    go_ret
    exact ⟨rfl, Below.refl _ _⟩
  rw [if_neg h5]
  have d5 : (op == 5) = false := by simpa using h5
  by_cases h12 : op = 12
  · subst h12
    rw [if_pos rfl]
    unfold argB at ha
    dsimp only at ha
    rw [if_neg (by decide), if_pos (.inr rfl), decide_eq_true_eq] at ha
    obtain ⟨n, rfl⟩ : ∃ n : Nat, arg = (n : Int) := ⟨arg.toNat, by omega⟩
    rw [Int.toNat_natCast]
    obtain ⟨nb, no, hna, _, hnc⟩ := HN.out.row (by omega)
    have hcn := hnc n (by omega)
    have r0 : (0 : Int) ≤ (n : Int) := by omega
    have r1 : (n : Int) < (S.ns.length : Int) := by omega
    have hl24 := (name_word (good_at HG.out (i := n) (by omega)).1).len
    have add1 : ∀ W, (Op.stringOp .add ⟨#[113, 46]⟩ (mkS (S.ns.getD n []))).run Tryz.prog W = .ok (.string (mkS (113 :: 46 :: S.ns.getD n []))) W := fun W => mkS_add [113, 46] _ (by simp) (by omega) W
    rw [hna]
    clear ha hag hnc hna hl24
    generalize mkS (113 :: 46 :: S.ns.getD n []) = z2 at *
    generalize mkS (S.ns.getD n []) = z at *
    generalize S.ns.length = nn at *
    go_enter Tryz.func44, Tryz.ntmps44
    go_wp2_with (go_at_call 90; refine (hlv _).mono ?_; rintro e w2 ⟨rfl, rfl⟩)
    go_ret
    exact ⟨rfl, Below.refl _ _⟩
  rw [if_neg h12]
  have d12 : (op == 12) = false := by simpa using h12
  have d18 : (op == 18) = false := by simp; omega
  have d19 : (op == 19) = false := by simp; omega
  have d43 : (op == 43) = false := by simp; omega
  obtain ⟨k, rfl⟩ : ∃ k : Nat, op = (k : Int) := ⟨op.toNat, by omega⟩
  have HW := Lib.hid (fun W => wordE_any k (by omega) W)
  generalize mkS (wordF (k : Int)) = z at *
  clear ha h1 h5 h12 hc1
  go_enter Tryz.func44, Tryz.ntmps44
  go_wp2_with (first
    | (go_at_call 90; refine (hlv _).mono ?_; rintro e w2 ⟨rfl, rfl⟩)
    | (go_at_call 94; refine (hag _).mono ?_; rintro e w3 ⟨rfl, rfl⟩)
    | (go_at_call 92; refine (HW.out _).mono ?_; rintro e w4 ⟨rfl, hb4⟩))
  go_ret
  exact ⟨rfl, hb4⟩
end Go.Proofs.YtdbahiepihkagaaGreatDoor
namespace Go.Proofs.YtdbahiepihkagaaGreatDoor
set_option maxRecDepth 100000
open Go.RowKit

set_option maxHeartbeats 2000000 in
theorem neg_any (S : Src) (hS : S.Ok) (p : Nat) (t : Int × Int) (a : Ex) (hs : Sits S.xs p (.un t a)) (hn : t.1 = 18 ∨ t.1 = 19) (T : Bytes) (hT : S.Brk (p + 1) 7 T) (hl : T.length ≤ 50000) : S.Text p (wordF t.1 ++ T) := by
  intro W hW
  have hc0 := (hS.cells hs hW).1
  have hlt := hs.lt
  have hfew := hS.few
  have q0 : (0 : Int) ≤ (p : Int) := by omega
  have q1 : (p : Int) < (S.xs.length : Int) := by omega
  unfold Src.Brk at hT
  have ep : ((p + 1 : Nat) : Int) = (p : Int) + 1 := by omega
  have e7 : ((7 : Nat) : Int) = 7 := rfl
  rw [ep, e7] at hT
  have HB := Lib.hid (fun W' (h : Below W.heap.size W W') => hT W' (hW.trans (h.mono hW.size)))
  obtain ⟨op, arg⟩ := t
  change W.cell? _ = some (.int .i64 op) at hc0
  dsimp only at hn ⊢
  have hlv := levelE_any op
  have key : ∀ (k : Nat), op = (k : Int) → k < 44 → (wordF (k : Int)).length ≤ 6 → (∀ W, (Op.stringOp .add (mkS (wordF (k : Int))) (mkS T)).run Tryz.prog W = .ok (.string (mkS (wordF (k : Int) ++ T))) W) := fun k _ _ h W => mkS_add _ _ (by omega) (by omega) W
  clear hs hW hS hT
  generalize S.xs.length = m at *
  rcases hn with rfl | rfl
  · have HW := Lib.hid (fun W => wordE_any 18 (by omega) W)
    have add1 := key 18 rfl (by omega) (by decide)
    rw [show ((18 : Nat) : Int) = 18 from rfl] at HW add1
    have hv : lvF 18 = 7 := rfl
    rw [hv] at hlv
    generalize mkS (wordF 18 ++ T) = z2 at *
    generalize mkS (wordF 18) = z1 at *
    clear key
    go_enter Tryz.func44, Tryz.ntmps44
    go_wp2_with (first
      | (go_at_call 90; refine (hlv _).mono ?_; rintro e w2 ⟨rfl, rfl⟩)
      | (go_at_call 92; refine (HW.out _).mono ?_; rintro e w4 ⟨rfl, hb4⟩)
      | (go_at_call 93; refine (HB.out _ hb4).mono ?_; rintro e w5 ⟨rfl, hb5⟩))
    go_ret
    exact ⟨rfl, hb4.trans (hb5.mono hb4.size)⟩
  · have HW := Lib.hid (fun W => wordE_any 19 (by omega) W)
    have add1 := key 19 rfl (by omega) (by decide)
    rw [show ((19 : Nat) : Int) = 19 from rfl] at HW add1
    have hv : lvF 19 = 7 := rfl
    rw [hv] at hlv
    generalize mkS (wordF 19 ++ T) = z2 at *
    generalize mkS (wordF 19) = z1 at *
    clear key
    go_enter Tryz.func44, Tryz.ntmps44
    go_wp2_with (first
      | (go_at_call 90; refine (hlv _).mono ?_; rintro e w2 ⟨rfl, rfl⟩)
      | (go_at_call 92; refine (HW.out _).mono ?_; rintro e w4 ⟨rfl, hb4⟩)
      | (go_at_call 93; refine (HB.out _ hb4).mono ?_; rintro e w5 ⟨rfl, hb5⟩))
    go_ret
    exact ⟨rfl, hb4.trans (hb5.mono hb4.size)⟩
set_option maxHeartbeats 2000000 in
theorem aggt_any (S : Src) (hS : S.Ok) (p : Nat) (t : Int × Int) (a : Ex) (hs : Sits S.xs p (.un t a)) (hn : 20 ≤ t.1 ∧ t.1 ≤ 29) (T : Bytes) (hT : S.Text (p + 1) T) (hl : T.length ≤ 50000) : S.Text p (wordF t.1 ++ prn T) := by
  intro W hW
  have hc0 := (hS.cells hs hW).1
  have hlt := hs.lt
  have hfew := hS.few
  have q0 : (0 : Int) ≤ (p : Int) := by omega
  have q1 : (p : Int) < (S.xs.length : Int) := by omega
  unfold Src.Text at hT
  have ep : ((p + 1 : Nat) : Int) = (p : Int) + 1 := by omega
  rw [ep] at hT
  have HB := Lib.hid (fun W' (h : Below W.heap.size W W') => hT W' (hW.trans (h.mono hW.size)))
  obtain ⟨op, arg⟩ := t
  change W.cell? _ = some (.int .i64 op) at hc0
  dsimp only at hn ⊢
  have hlv := levelE_any op
  have hag := fun W => aggR_any op W
  rw [agg_yes hn] at hag
  obtain ⟨k, rfl⟩ : ∃ k : Nat, op = (k : Int) := ⟨op.toNat, by omega⟩
  have HW := Lib.hid (fun W => wordE_any k (by omega) W)
  have hwl : (wordF (k : Int)).length ≤ 6 := (agg_word hn).2.2.2.2.2.2
  have add1 : ∀ W, (Op.stringOp .add (mkS (wordF (k : Int))) ⟨#[40]⟩).run Tryz.prog W = .ok (.string (mkS (wordF (k : Int) ++ [40]))) W := fun W => mkS_add _ [40] (by omega) (by simp) W
  have add2 : ∀ W, (Op.stringOp .add (mkS (wordF (k : Int) ++ [40])) (mkS T)).run Tryz.prog W = .ok (.string (mkS (wordF (k : Int) ++ [40] ++ T))) W := fun W => mkS_add _ _ (by simp; omega) (by omega) W
  have add3 : ∀ W, (Op.stringOp .add (mkS (wordF (k : Int) ++ [40] ++ T)) ⟨#[41]⟩).run Tryz.prog W = .ok (.string (mkS (wordF (k : Int) ++ prn T))) W := fun W => by
    have := mkS_add (wordF (k : Int) ++ [40] ++ T) [41] (by simp; omega) (by simp) W
    have e : wordF (k : Int) ++ [40] ++ T ++ [41] = wordF (k : Int) ++ prn T := by simp [prn]
    rw [e] at this
    exact this
  have d1 : ((k : Int) == 1) = false := by simp; omega
  have d5 : ((k : Int) == 5) = false := by simp; omega
  have d12 : ((k : Int) == 12) = false := by simp; omega
  have d18 : ((k : Int) == 18) = false := by simp; omega
  have d19 : ((k : Int) == 19) = false := by simp; omega
  clear hs hW hS hT hwl
  generalize S.xs.length = m at *
  generalize mkS (wordF (k : Int) ++ prn T) = z4 at *
  generalize mkS (wordF (k : Int) ++ [40] ++ T) = z3 at *
  generalize mkS (wordF (k : Int) ++ [40]) = z2 at *
  generalize mkS (wordF (k : Int)) = z1 at *
  generalize lvF (k : Int) = l at *
  go_enter Tryz.func44, Tryz.ntmps44
  go_wp2_with (first
    | (go_at_call 90; refine (hlv _).mono ?_; rintro e w2 ⟨rfl, rfl⟩)
    | (go_at_call 94; refine (hag _).mono ?_; rintro e w3 ⟨rfl, rfl⟩)
    | (go_at_call 92; refine (HW.out _).mono ?_; rintro e w4 ⟨rfl, hb4⟩)
    | (go_at_call 44; refine (HB.out _ hb4).mono ?_; rintro e w5 ⟨rfl, hb5⟩))
  go_ret
  exact ⟨rfl, hb4.trans (hb5.mono hb4.size)⟩
end Go.Proofs.YtdbahiepihkagaaGreatDoor
namespace Go.Proofs.YtdbahiepihkagaaGreatDoor
set_option maxRecDepth 100000
open Go.RowKit

set_option maxHeartbeats 4000000 in
theorem bi_any (S : Src) (hS : S.Ok) (p : Nat) (t : Int × Int) (a b : Ex) (hs : Sits S.xs p (.bi t a b)) (hw : (Ex.bi t a b).wf) (l1 l2 : Nat) (h1 : l1 = if lvF t.1 = 4 then 5 else lvF t.1) (h2 : l2 = if lvF t.1 = 4 then 5 else lvF t.1 + 1) (T U : Bytes)
    (hT : S.Brk (p + 1) l1 T) (hU : S.Brk (p + 1 + a.flat.length) l2 U) (hl : T.length ≤ 30000) (hl2 : U.length ≤ 30000) : S.Text p (T ++ 32 :: (wordF t.1 ++ 32 :: U)) := by
  intro W hW
  have hc0 := (hS.cells hs hW).1
  have hlt := hs.lt
  have hle := hs.le
  have hfew := hS.few
  have q0 : (0 : Int) ≤ (p : Int) := by omega
  have q1 : (p : Int) < (S.xs.length : Int) := by omega
  unfold Src.Brk at hT hU
  have ep : ((p + 1 : Nat) : Int) = (p : Int) + 1 := by omega
  rw [ep] at hT
  have HA := Lib.hid (fun W' (h : Below W.heap.size W W') => hT W' (hW.trans (h.mono hW.size)))
  have HB := Lib.hid (fun W' (h : Below W.heap.size W W') => hU W' (hW.trans (h.mono hW.size)))
  have hop := opd_bi hs hw
  have HO := Lib.hid (fun W' (h : Below W.heap.size W W') => operandR_any (some ⟨S.b, S.o, none⟩) S.c S.xs p 1 W' (hS.links.below (hW.trans (h.mono hW.size))) (by omega))
  rw [hop] at HO
  have hr := ar_bi hw.1
  obtain ⟨op, arg⟩ := t
  change W.cell? _ = some (.int .i64 op) at hc0
  dsimp only at hr h1 h2 ⊢
  have hlv := levelE_any op
  have hag := fun W => aggR_any op W
  rw [agg_no (by omega)] at hag
  obtain ⟨k, rfl⟩ : ∃ k : Nat, op = (k : Int) := ⟨op.toNat, by omega⟩
  have HW := Lib.hid (fun W => wordE_any k (by omega) W)
  obtain ⟨_, _, _, s5, s6, s7⟩ := sign_word hr
  have add1 : ∀ W, (Op.stringOp .add (mkS T) ⟨#[32]⟩).run Tryz.prog W = .ok (.string (mkS (T ++ [32]))) W := fun W => mkS_add _ [32] (by omega) (by simp) W
  have add2 : ∀ W, (Op.stringOp .add (mkS (T ++ [32])) (mkS (wordF (k : Int)))).run Tryz.prog W = .ok (.string (mkS (T ++ [32] ++ wordF (k : Int)))) W := fun W => mkS_add _ _ (by simp; omega) (by omega) W
  have add3 : ∀ W, (Op.stringOp .add (mkS (T ++ [32] ++ wordF (k : Int))) ⟨#[32]⟩).run Tryz.prog W = .ok (.string (mkS (T ++ [32] ++ wordF (k : Int) ++ [32]))) W := fun W => mkS_add _ [32] (by simp; omega) (by simp) W
  have add4 : ∀ W, (Op.stringOp .add (mkS (T ++ [32] ++ wordF (k : Int) ++ [32])) (mkS U)).run Tryz.prog W = .ok (.string (mkS (T ++ 32 :: (wordF (k : Int) ++ 32 :: U)))) W := fun W => by
    have := mkS_add (T ++ [32] ++ wordF (k : Int) ++ [32]) U (by simp; omega) (by omega) W
    have e : T ++ [32] ++ wordF (k : Int) ++ [32] ++ U = T ++ 32 :: (wordF (k : Int) ++ 32 :: U) := by simp
    rw [e] at this
    exact this
  have d1 : ((k : Int) == 1) = false := by simp; omega
  have d5 : ((k : Int) == 5) = false := by simp; omega
  have d12 : ((k : Int) == 12) = false := by simp; omega
  have d18 : ((k : Int) == 18) = false := by simp; omega
  have d19 : ((k : Int) == 19) = false := by simp; omega
  have d43 : ((k : Int) == 43) = false := by simp; omega
  clear hs hW hS hT hU hop hw hle s7
  generalize S.xs.length = m at *
  generalize mkS (T ++ 32 :: (wordF (k : Int) ++ 32 :: U)) = z5 at *
  generalize mkS (T ++ [32] ++ wordF (k : Int) ++ [32]) = z4 at *
  generalize mkS (T ++ [32] ++ wordF (k : Int)) = z3 at *
  generalize mkS (T ++ [32]) = z2 at *
  generalize mkS (wordF (k : Int)) = z1 at *
  generalize mkS T = zt at *
  generalize mkS U = zu at *
  generalize p + 1 + a.flat.length = q at *
  generalize lvF (k : Int) = l at *
  by_cases h4 : l = 4
  · rw [if_pos h4] at h1 h2
    subst h1 h2 h4
    rw [show ((5 : Nat) : Int) = 5 from rfl] at HA HB
    rw [show ((4 : Nat) : Int) = 4 from rfl] at hlv
    go_enter Tryz.func44, Tryz.ntmps44
    go_wp2_with (first
      | (go_at_call 90; refine (hlv _).mono ?_; rintro e w2 ⟨rfl, rfl⟩)
      | (go_at_call 94; refine (hag _).mono ?_; rintro e w3 ⟨rfl, rfl⟩)
      | (go_at_call 92; refine (HW.out _).mono ?_; rintro e w5 ⟨rfl, hb5⟩; have hB5 := hB4.trans (hb5.mono hB4.size))
      | (go_at_call 47; refine (HO.out _ hB5).mono ?_; rintro e w6 ⟨rfl, hb6⟩; have hB6 := hB5.trans (hb6.mono hB5.size))
      | (go_at_call 93; first
          | ((with_reducible refine (HB.out _ hB6).mono ?_); rintro e w7 ⟨rfl, hb7⟩; have hB7 := hB6.trans (hb7.mono hB6.size))
          | ((with_reducible refine (HA.out _ (Below.refl _ _)).mono ?_); rintro e w4 ⟨rfl, hB4⟩)))
    go_ret
    exact ⟨rfl, hB7⟩
  · rw [if_neg h4] at h1 h2
    subst h1 h2
    have d4 : ((l1 : Int) == 4) = false := by simp; omega
    have d7 : (l1 : Int) < 7 := by omega
    have e1 : ((l1 + 1 : Nat) : Int) = (l1 : Int) + 1 := by omega
    rw [e1] at HB
    clear h4
    go_enter Tryz.func44, Tryz.ntmps44
    go_wp2_with (first
      | (go_at_call 90; refine (hlv _).mono ?_; rintro e w2 ⟨rfl, rfl⟩)
      | (go_at_call 94; refine (hag _).mono ?_; rintro e w3 ⟨rfl, rfl⟩)
      | (go_at_call 92; refine (HW.out _).mono ?_; rintro e w5 ⟨rfl, hb5⟩; have hB5 := hB4.trans (hb5.mono hB4.size))
      | (go_at_call 47; refine (HO.out _ hB5).mono ?_; rintro e w6 ⟨rfl, hb6⟩; have hB6 := hB5.trans (hb6.mono hB5.size))
      | (go_at_call 93; first
          | ((with_reducible refine (HB.out _ hB6).mono ?_); rintro e w7 ⟨rfl, hb7⟩; have hB7 := hB6.trans (hb7.mono hB6.size))
          | ((with_reducible refine (HA.out _ (Below.refl _ _)).mono ?_); rintro e w4 ⟨rfl, hB4⟩)))
    go_ret
    exact ⟨rfl, hB7⟩
set_option maxHeartbeats 4000000 in
theorem cond_any (S : Src) (hS : S.Ok) (p : Nat) (t : Int × Int) (c a b : Ex) (hs : Sits S.xs p (.cond t c a b)) (hw : (Ex.cond t c a b).wf) (T U V : Bytes)
    (hT : S.Brk (p + 1) 2 T) (hU : S.Text (p + 1 + c.flat.length) U) (hV : S.Text (p + 1 + c.flat.length + a.flat.length) V) (hl : T.length ≤ 30000) (hl2 : U.length ≤ 30000) (hl3 : V.length ≤ 30000) : S.Text p (T ++ 32 :: 63 :: 32 :: (U ++ 32 :: 58 :: 32 :: V)) := by
  intro W hW
  have hc0 := (hS.cells hs hW).1
  have hlt := hs.lt
  have hle := hs.le
  have hfew := hS.few
  have q0 : (0 : Int) ≤ (p : Int) := by omega
  have q1 : (p : Int) < (S.xs.length : Int) := by omega
  unfold Src.Brk at hT
  unfold Src.Text at hU hV
  have ep : ((p + 1 : Nat) : Int) = (p : Int) + 1 := by omega
  rw [ep, show ((2 : Nat) : Int) = 2 from rfl] at hT
  have HA := Lib.hid (fun W' (h : Below W.heap.size W W') => hT W' (hW.trans (h.mono hW.size)))
  have HB := Lib.hid (fun W' (h : Below W.heap.size W W') => hU W' (hW.trans (h.mono hW.size)))
  have HC := Lib.hid (fun W' (h : Below W.heap.size W W') => hV W' (hW.trans (h.mono hW.size)))
  have HO := Lib.hid (fun W' (h : Below W.heap.size W W') => operandR_any (some ⟨S.b, S.o, none⟩) S.c S.xs p 1 W' (hS.links.below (hW.trans (h.mono hW.size))) (by omega))
  have HP := Lib.hid (fun W' (h : Below W.heap.size W W') => operandR_any (some ⟨S.b, S.o, none⟩) S.c S.xs p 2 W' (hS.links.below (hW.trans (h.mono hW.size))) (by omega))
  rw [opd_c2 hs hw] at HO
  rw [opd_c3 hs hw] at HP
  have hr := ar_cond hw.1
  obtain ⟨op, arg⟩ := t
  change W.cell? _ = some (.int .i64 op) at hc0
  dsimp only at hr ⊢
  subst hr
  have hlv := levelE_any 43
  have hag := fun W => aggR_any 43 W
  rw [agg_no (by omega)] at hag
  have add1 : ∀ W, (Op.stringOp .add (mkS T) ⟨#[32, 63, 32]⟩).run Tryz.prog W = .ok (.string (mkS (T ++ [32, 63, 32]))) W := fun W => mkS_add _ [32, 63, 32] (by omega) (by simp) W
  have add2 : ∀ W, (Op.stringOp .add (mkS (T ++ [32, 63, 32])) (mkS U)).run Tryz.prog W = .ok (.string (mkS (T ++ [32, 63, 32] ++ U))) W := fun W => mkS_add _ _ (by simp; omega) (by omega) W
  have add3 : ∀ W, (Op.stringOp .add (mkS (T ++ [32, 63, 32] ++ U)) ⟨#[32, 58, 32]⟩).run Tryz.prog W = .ok (.string (mkS (T ++ [32, 63, 32] ++ U ++ [32, 58, 32]))) W := fun W => mkS_add _ [32, 58, 32] (by simp; omega) (by simp) W
  have add4 : ∀ W, (Op.stringOp .add (mkS (T ++ [32, 63, 32] ++ U ++ [32, 58, 32])) (mkS V)).run Tryz.prog W = .ok (.string (mkS (T ++ 32 :: 63 :: 32 :: (U ++ 32 :: 58 :: 32 :: V)))) W := fun W => by
    have := mkS_add (T ++ [32, 63, 32] ++ U ++ [32, 58, 32]) V (by simp; omega) (by omega) W
    have e : T ++ [32, 63, 32] ++ U ++ [32, 58, 32] ++ V = T ++ 32 :: 63 :: 32 :: (U ++ 32 :: 58 :: 32 :: V) := by simp
    rw [e] at this
    exact this
  clear hs hW hS hT hU hV hw hle
  generalize S.xs.length = m at *
  generalize mkS (T ++ 32 :: 63 :: 32 :: (U ++ 32 :: 58 :: 32 :: V)) = z5 at *
  generalize mkS (T ++ [32, 63, 32] ++ U ++ [32, 58, 32]) = z4 at *
  generalize mkS (T ++ [32, 63, 32] ++ U) = z3 at *
  generalize mkS (T ++ [32, 63, 32]) = z2 at *
  generalize mkS T = zt at *
  generalize mkS U = zu at *
  generalize mkS V = zv at *
  generalize p + 1 + c.flat.length + a.flat.length = q2 at *
  generalize p + 1 + c.flat.length = q at *
  generalize lvF 43 = l at *
  go_enter Tryz.func44, Tryz.ntmps44
  go_wp2_with (first
    | (go_at_call 90; refine (hlv _).mono ?_; rintro e w2 ⟨rfl, rfl⟩)
    | (go_at_call 94; refine (hag _).mono ?_; rintro e w3 ⟨rfl, rfl⟩)
    | (go_at_call 93; refine (HA.out _ (Below.refl _ _)).mono ?_; rintro e w4 ⟨rfl, hB4⟩)
    | (go_at_call 47; first
        | ((with_reducible refine (HP.out _ hB6).mono ?_); rintro e w7 ⟨rfl, hb7⟩; have hB7 := hB6.trans (hb7.mono hB6.size))
        | ((with_reducible refine (HO.out _ hB4).mono ?_); rintro e w5 ⟨rfl, hb5⟩; have hB5 := hB4.trans (hb5.mono hB4.size)))
    | (go_at_call 44; first
        | ((with_reducible refine (HC.out _ hB7).mono ?_); rintro e w8 ⟨rfl, hb8⟩; have hB8 := hB7.trans (hb8.mono hB7.size))
        | ((with_reducible refine (HB.out _ hB5).mono ?_); rintro e w6 ⟨rfl, hb6⟩; have hB6 := hB5.trans (hb6.mono hB5.size))))
  go_ret
  exact ⟨rfl, hB8⟩
end Go.Proofs.YtdbahiepihkagaaGreatDoor
