/- What Text and Format of the specification of layer 6 answer. -/
import Derived.Test.YtokmehjofboflaaGreatDoorExprPM
import Derived.Test.YtokmehjofboflaaGreatDoorExprOut
import Derived.Test.YtokmehjofboflaaGreatDoorExprOper
import Derived.Test.YtokmehjofboflaaGreatDoorTermR5
namespace Go.Proofs.YtokmehjofboflaaGreatDoor
set_option maxRecDepth 100000

theorem tree_eat : ∀ (x : Ex), x.wf → ∀ r : List (Int × Int), eat (x.flat ++ r) 1 = some x.flat.length
  | .leaf t, h, r => by
    have h0 : arF t.1 = 0 := h
    show eat (t :: r) 1 = some 1
    rw [eat_cons, if_neg (by omega), h0]
    show (eat r 0).map (· + 1) = some 1
    rw [eat_zero]
    rfl
  | .un t a, h, r => by
    have h0 : arF t.1 = 1 := h.1
    show eat (t :: (a.flat ++ r)) 1 = some (a.flat.length + 1)
    rw [eat_cons, if_neg (by omega), h0]
    show (eat (a.flat ++ r) 1).map (· + 1) = _
    rw [tree_eat a h.2]
    rfl
  | .bi t a b, h, r => by
    have h0 : arF t.1 = 2 := h.1
    show eat (t :: ((a.flat ++ b.flat) ++ r)) 1 = some ((a.flat ++ b.flat).length + 1)
    rw [eat_cons, if_neg (by omega), h0, List.append_assoc]
    show (eat (a.flat ++ (b.flat ++ r)) (1 + 1)).map (· + 1) = _
    rw [eat_add, tree_eat a h.2.1, Option.bind_some, List.drop_left, tree_eat b h.2.2]
    simp
  | .cond t c a b, h, r => by
    have h0 : arF t.1 = 3 := h.1
    show eat (t :: ((c.flat ++ (a.flat ++ b.flat)) ++ r)) 1 = some ((c.flat ++ (a.flat ++ b.flat)).length + 1)
    rw [eat_cons, if_neg (by omega), h0, List.append_assoc, List.append_assoc]
    show (eat (c.flat ++ (a.flat ++ (b.flat ++ r))) (1 + (1 + 1))).map (· + 1) = _
    rw [eat_add, tree_eat c h.2.1, Option.bind_some, List.drop_left, eat_add, tree_eat a h.2.2.1, Option.bind_some, List.drop_left, tree_eat b h.2.2.2]
    simp
/-- a tree stands at a place of a list -/
def Sits (xs : List (Int × Int)) (p : Nat) (x : Ex) : Prop := ∃ r, xs.drop p = x.flat ++ r
theorem flat_top (x : Ex) : ∃ r, x.flat = x.top :: r := by
  cases x <;> exact ⟨_, rfl⟩
theorem Sits.lt {xs : List (Int × Int)} {p : Nat} {x : Ex} (h : Sits xs p x) : p < xs.length := by
  obtain ⟨r, h⟩ := h
  obtain ⟨q, hq⟩ := flat_top x
  have := congrArg List.length h
  rw [hq] at this
  simp at this
  omega
theorem Sits.le {xs : List (Int × Int)} {p : Nat} {x : Ex} (h : Sits xs p x) : p + x.flat.length ≤ xs.length := by
  have h1 := h.lt
  obtain ⟨r, h⟩ := h
  have := congrArg List.length h
  simp at this
  omega
theorem Sits.top {xs : List (Int × Int)} {p : Nat} {x : Ex} (h : Sits xs p x) : toA xs p = x.top.1 ∧ wtA xs p = x.top.2 := by
  have h1 := h.lt
  obtain ⟨r, h⟩ := h
  obtain ⟨q, hq⟩ := flat_top x
  rw [drop_tm h1, hq, List.cons_append] at h
  injection h with h _
  rw [← h]
  exact ⟨rfl, rfl⟩
theorem Sits.end_ {xs : List (Int × Int)} {p : Nat} {x : Ex} (h : Sits xs p x) (hw : x.wf) : endF xs p = (p + x.flat.length : Nat) := by
  obtain ⟨r, h⟩ := h
  exact endF_some (by rw [h]; exact tree_eat x hw r)
theorem Sits.un {xs : List (Int × Int)} {p : Nat} {t : Int × Int} {a : Ex} (h : Sits xs p (.un t a)) : Sits xs (p + 1) a := by
  obtain ⟨r, h⟩ := h
  exact ⟨r, by rw [← List.drop_drop, h]; rfl⟩
theorem Sits.bi1 {xs : List (Int × Int)} {p : Nat} {t : Int × Int} {a b : Ex} (h : Sits xs p (.bi t a b)) : Sits xs (p + 1) a := by
  obtain ⟨r, h⟩ := h
  exact ⟨b.flat ++ r, by rw [← List.drop_drop, h, ← List.append_assoc]; rfl⟩
theorem Sits.bi2 {xs : List (Int × Int)} {p : Nat} {t : Int × Int} {a b : Ex} (h : Sits xs p (.bi t a b)) : Sits xs (p + 1 + a.flat.length) b := by
  obtain ⟨r, h⟩ := h
  refine ⟨r, ?_⟩
  have e : xs.drop (p + 1) = a.flat ++ (b.flat ++ r) := by
    rw [← List.drop_drop, h, ← List.append_assoc]
    rfl
  rw [← List.drop_drop, e, List.drop_left]
theorem Sits.c1 {xs : List (Int × Int)} {p : Nat} {t : Int × Int} {c a b : Ex} (h : Sits xs p (.cond t c a b)) : Sits xs (p + 1) c := by
  obtain ⟨r, h⟩ := h
  exact ⟨a.flat ++ b.flat ++ r, by rw [← List.drop_drop, h, ← List.append_assoc]; rfl⟩
theorem Sits.c2 {xs : List (Int × Int)} {p : Nat} {t : Int × Int} {c a b : Ex} (h : Sits xs p (.cond t c a b)) : Sits xs (p + 1 + c.flat.length) a := by
  obtain ⟨r, h⟩ := h
  refine ⟨b.flat ++ r, ?_⟩
  have e : xs.drop (p + 1) = c.flat ++ (a.flat ++ (b.flat ++ r)) := by
    rw [← List.drop_drop, h]
    show (c.flat ++ (a.flat ++ b.flat)) ++ r = _
    simp
  rw [← List.drop_drop, e, List.drop_left]
theorem Sits.c3 {xs : List (Int × Int)} {p : Nat} {t : Int × Int} {c a b : Ex} (h : Sits xs p (.cond t c a b)) : Sits xs (p + 1 + c.flat.length + a.flat.length) b := by
  obtain ⟨r, h⟩ := h
  refine ⟨r, ?_⟩
  have e : xs.drop (p + 1) = c.flat ++ (a.flat ++ (b.flat ++ r)) := by
    rw [← List.drop_drop, h]
    show (c.flat ++ (a.flat ++ b.flat)) ++ r = _
    simp
  rw [← List.drop_drop, ← List.drop_drop, e, List.drop_left, List.drop_left]
theorem opd_place {xs : List (Int × Int)} {p k : Nat} {x : Ex} (h : Sits xs p x) (hw : x.wf) (hk : (k : Int) < arF x.top.1) : opdF xs p k = placeF xs p k := by
  unfold opdF
  rw [h.end_ hw, Int.toNat_natCast, Int.toNat_natCast, h.top.1, if_neg]
  omega
theorem opd_bi {xs : List (Int × Int)} {p : Nat} {t : Int × Int} {a b : Ex} (h : Sits xs p (.bi t a b)) (hw : (Ex.bi t a b).wf) : opdF xs p 1 = (p + 1 + a.flat.length : Nat) := by
  have e := opd_place (k := 1) h hw (by show ((1 : Nat) : Int) < arF t.1; have := hw.1; omega)
  rw [show ((1 : Nat) : Int) = 1 from rfl] at e
  rw [e]
  show endF xs ((p : Int) + 1) = _
  rw [show (p : Int) + 1 = ((p + 1 : Nat) : Int) by omega]
  exact h.bi1.end_ hw.2.1
theorem opd_c2 {xs : List (Int × Int)} {p : Nat} {t : Int × Int} {c a b : Ex} (h : Sits xs p (.cond t c a b)) (hw : (Ex.cond t c a b).wf) : opdF xs p 1 = (p + 1 + c.flat.length : Nat) := by
  have e := opd_place (k := 1) h hw (by show ((1 : Nat) : Int) < arF t.1; have := hw.1; omega)
  rw [show ((1 : Nat) : Int) = 1 from rfl] at e
  rw [e]
  show endF xs ((p : Int) + 1) = _
  rw [show (p : Int) + 1 = ((p + 1 : Nat) : Int) by omega]
  exact h.c1.end_ hw.2.1
theorem opd_c3 {xs : List (Int × Int)} {p : Nat} {t : Int × Int} {c a b : Ex} (h : Sits xs p (.cond t c a b)) (hw : (Ex.cond t c a b).wf) : opdF xs p 2 = (p + 1 + c.flat.length + a.flat.length : Nat) := by
  have e := opd_place (k := 2) h hw (by show ((2 : Nat) : Int) < arF t.1; have := hw.1; omega)
  rw [show ((2 : Nat) : Int) = 2 from rfl] at e
  rw [e]
  show endF xs (endF xs ((p : Int) + 1)) = _
  rw [show (p : Int) + 1 = ((p + 1 : Nat) : Int) by omega, h.c1.end_ hw.2.1]
  exact h.c2.end_ hw.2.2.1
end Go.Proofs.YtokmehjofboflaaGreatDoor
namespace Go.Proofs.YtokmehjofboflaaGreatDoor
set_option maxRecDepth 100000
open Go.RowKit

/-- an expression and names in memory -/
structure Src where
  w : World
  b : Nat
  o : Nat
  c : Nat
  xs : List (Int × Int)
  na : Option Addr
  nc : Nat
  ns : List Bytes
structure Src.Ok (S : Src) : Prop where
  links : LinksAt S.w (some ⟨S.b, S.o, none⟩) S.xs
  names : NamesAt S.w S.na S.ns
  good : goodF S.ns = true
  few : S.xs.length ≤ 1000
def Src.Text (S : Src) (p : Nat) (T : Bytes) : Prop := ∀ W, Below S.w.heap.size S.w W →
  Calls Tryz.prog 31 #[.slice (some ⟨S.b, S.o, none⟩) S.xs.length S.c, .int .i64 (p : Int), .slice S.na S.ns.length S.nc] W fun e w' => e = .returned (.string (mkS T)) ∧ Below W.heap.size W w'
def Src.Brk (S : Src) (p : Nat) (least : Nat) (T : Bytes) : Prop := ∀ W, Below S.w.heap.size S.w W →
  Calls Tryz.prog 71 #[.slice (some ⟨S.b, S.o, none⟩) S.xs.length S.c, .int .i64 (p : Int), .int .i64 (least : Int), .slice S.na S.ns.length S.nc] W fun e w' => e = .returned (.string (mkS T)) ∧ Below W.heap.size W w'
theorem Src.Ok.cells {S : Src} (h : S.Ok) {p : Nat} {x : Ex} (hs : Sits S.xs p x) {W : World} (hb : Below S.w.heap.size S.w W) :
    W.cell? ⟨S.b, S.o + p * 2, none⟩ = some (.int .i64 x.top.1) ∧ W.cell? ⟨S.b, S.o + p * 2 + 1, none⟩ = some (.int .i64 x.top.2) := by
  have hl := hs.lt
  obtain ⟨b, o, e, _, hc⟩ := (h.links.below hb).row (by omega)
  injection e with e
  injection e with e1 e2
  rw [e1, e2, ← hs.top.1, ← hs.top.2]
  exact hc p hl
set_option maxHeartbeats 1000000 in
theorem brk_any (S : Src) (hS : S.Ok) (p least : Nat) (x : Ex) (hs : Sits S.xs p x) (T : Bytes) (hT : S.Text p T) (hl : T.length ≤ 50000) : S.Brk p least (brk least x.lv T) := by
  intro W hW
  have HT := Lib.hid (hT W hW)
  have HC := Lib.hid (fun W' (h : Below W.heap.size W W') => (hS.cells hs (hW.trans (h.mono hW.size))).1)
  have hlv := levelE_any x.top.1
  have hlt := hs.lt
  have hfew := hS.few
  have q0 : (0 : Int) ≤ (p : Int) := by omega
  have q1 : (p : Int) < (S.xs.length : Int) := by omega
  have add1 : ∀ W, (Op.stringOp .add ⟨#[40]⟩ (mkS T)).run Tryz.prog W = .ok (.string (mkS (40 :: T))) W := fun W => mkS_add [40] T (by simp) (by omega) W
  have add2 : ∀ W, (Op.stringOp .add (mkS (40 :: T)) ⟨#[41]⟩).run Tryz.prog W = .ok (.string (mkS (prn T))) W := fun W => mkS_add (40 :: T) [41] (by simp; omega) (by simp) W
  unfold brk
  show Calls _ _ _ _ fun e w' => e = .returned (.string (mkS (if lvF x.top.1 < least then prn T else T))) ∧ _
  clear hT hS hs hW hl
  generalize mkS (40 :: T) = z1 at *
  generalize x.top.1 = op at *
  generalize lvF op = k at *
  generalize S.xs.length = m at *
  by_cases hk : k < least
  · rw [if_pos hk]
    have d : (k : Int) < (least : Int) := by omega
    generalize mkS (prn T) = z2 at *
    go_enter Tryz.func71, Tryz.ntmps71
    go_wp2_with (first
      | (go_at_call 31; refine HT.out.mono ?_; rintro e w1 ⟨rfl, hb1⟩; have hc1 := HC.out _ hb1)
      | (go_at_call 68; refine (hlv _).mono ?_; rintro e w2 ⟨rfl, rfl⟩))
    go_ret
    exact ⟨rfl, hb1⟩
  · rw [if_neg hk]
    have d : decide ((k : Int) < (least : Int)) = false := by simp; omega
    go_enter Tryz.func71, Tryz.ntmps71
    go_wp2_with (first
      | (go_at_call 31; refine HT.out.mono ?_; rintro e w1 ⟨rfl, hb1⟩; have hc1 := HC.out _ hb1)
      | (go_at_call 68; refine (hlv _).mono ?_; rintro e w2 ⟨rfl, rfl⟩))
    go_ret
    exact ⟨rfl, hb1⟩
theorem agg_no {op : Int} (h : ¬ (20 ≤ op ∧ op ≤ 29)) : aggF op = false := decide_eq_false h
theorem agg_yes {op : Int} (h : 20 ≤ op ∧ op ≤ 29) : aggF op = true := decide_eq_true h
set_option maxHeartbeats 2000000 in
theorem leaf_any (S : Src) (hS : S.Ok) (p : Nat) (t : Int × Int) (hs : Sits S.xs p (.leaf t)) (hw : arF t.1 = 0) (ha : argB t S.ns.length = true) : S.Text p (leafT S.ns t) := by
  intro W hW
  have hr := ar_leaf hw
  have hc0 := (hS.cells hs hW).1
  have hc1 := (hS.cells hs hW).2
  have hlv := levelE_any t.1
  have hag := fun W => aggR_any t.1 W
  rw [agg_no (by omega)] at hag
  rw [lv_leaf hr] at hlv
  have hlt := hs.lt
  have hfew := hS.few
  have q0 : (0 : Int) ≤ (p : Int) := by omega
  have q1 : (p : Int) < (S.xs.length : Int) := by omega
  have HN := Lib.hid (hS.names.below hW rfl)
  have HG := Lib.hid hS.good
  have hns := good_few hS.good
  have e8 : (((8 : Nat) : Int) == 4) = false := rfl
  have e7 : decide (((8 : Nat) : Int) < 7) = false := by decide
  obtain ⟨op, arg⟩ := t
  change W.cell? _ = some (.int .i64 op) at hc0
  change W.cell? _ = some (.int .i64 arg) at hc1
  dsimp only at hr hlv hag
  unfold leafT
  dsimp only
  clear hs hw hW hS
  generalize S.xs.length = m at *
  by_cases h1 : op = 1
  · subst h1
    rw [if_pos rfl]
    unfold argB at ha
    dsimp only at ha
    rw [if_pos rfl, decide_eq_true_eq] at ha
    obtain ⟨n, rfl⟩ : ∃ n : Nat, arg = (n : Int) := ⟨arg.toNat, by omega⟩
    rw [Int.toNat_natCast]
    have HD := Lib.hid (fun W => decimalE_any n W (by omega))
    generalize mkS (decB n) = z at *
    clear ha hag
    go_enter Tryz.func31, Tryz.ntmps31
    go_wp2_with (first
      | (go_at_call 68; refine (hlv _).mono ?_; rintro e w2 ⟨rfl, rfl⟩)
      | (go_at_call 69; refine (HD.out _).mono ?_; rintro e w3 ⟨rfl, hb3⟩))
    go_ret
    exact ⟨rfl, hb3⟩
  rw [if_neg h1]
  have d1 : (op == 1) = false := by simpa using h1
  by_cases h5 : op = 5
  · subst h5
    rw [if_pos rfl]
    unfold argB at ha
    dsimp only at ha
    rw [if_neg (by decide), if_pos (.inl rfl), decide_eq_true_eq] at ha
    obtain ⟨n, rfl⟩ : ∃ n : Nat, arg = (n : Int) := ⟨arg.toNat, by omega⟩
    rw [Int.toNat_natCast]
    obtain ⟨nb, no, hna, _, hnc⟩ := HN.out.row (by omega)
    have hcn := hnc n (by omega)
    have r0 : (0 : Int) ≤ (n : Int) := by omega
    have r1 : (n : Int) < (S.ns.length : Int) := by omega
    rw [hna]
    clear ha hag hnc hna
    generalize mkS (S.ns.getD n []) = z at *
    generalize S.ns.length = nn at *
    go_enter Tryz.func31, Tryz.ntmps31
    go_wp2_with (go_at_call 68; refine (hlv _).mono ?_; rintro e w2 ⟨rfl, rfl⟩)
    go_ret
    exact ⟨rfl, Below.refl _ _⟩
  rw [if_neg h5]
  have d5 : (op == 5) = false := by simpa using h5
  by_cases h12 : op = 12
  · subst h12
    rw [if_pos rfl]
    unfold argB at ha
    dsimp only at ha
    rw [if_neg (by decide), if_pos (.inr rfl), decide_eq_true_eq] at ha
    obtain ⟨n, rfl⟩ : ∃ n : Nat, arg = (n : Int) := ⟨arg.toNat, by omega⟩
    rw [Int.toNat_natCast]
    obtain ⟨nb, no, hna, _, hnc⟩ := HN.out.row (by omega)
    have hcn := hnc n (by omega)
    have r0 : (0 : Int) ≤ (n : Int) := by omega
    have r1 : (n : Int) < (S.ns.length : Int) := by omega
    have hl24 := (name_word (good_at HG.out (i := n) (by omega)).1).len
    have add1 : ∀ W, (Op.stringOp .add ⟨#[113, 46]⟩ (mkS (S.ns.getD n []))).run Tryz.prog W = .ok (.string (mkS (113 :: 46 :: S.ns.getD n []))) W := fun W => mkS_add [113, 46] _ (by simp) (by omega) W
    rw [hna]
    clear ha hag hnc hna hl24
    generalize mkS (113 :: 46 :: S.ns.getD n []) = z2 at *
    generalize mkS (S.ns.getD n []) = z at *
    generalize S.ns.length = nn at *
    go_enter Tryz.func31, Tryz.ntmps31
    go_wp2_with (go_at_call 68; refine (hlv _).mono ?_; rintro e w2 ⟨rfl, rfl⟩)
    go_ret
    exact ⟨rfl, Below.refl _ _⟩
  rw [if_neg h12]
  have d12 : (op == 12) = false := by simpa using h12
  have d18 : (op == 18) = false := by simp; omega
  have d19 : (op == 19) = false := by simp; omega
  have d43 : (op == 43) = false := by simp; omega
  obtain ⟨k, rfl⟩ : ∃ k : Nat, op = (k : Int) := ⟨op.toNat, by omega⟩
  have HW := Lib.hid (fun W => wordE_any k (by omega) W)
  generalize mkS (wordF (k : Int)) = z at *
  clear ha h1 h5 h12 hc1
  go_enter Tryz.func31, Tryz.ntmps31
  go_wp2_with (first
    | (go_at_call 68; refine (hlv _).mono ?_; rintro e w2 ⟨rfl, rfl⟩)
    | (go_at_call 72; refine (hag _).mono ?_; rintro e w3 ⟨rfl, rfl⟩)
    | (go_at_call 70; refine (HW.out _).mono ?_; rintro e w4 ⟨rfl, hb4⟩))
  go_ret
  exact ⟨rfl, hb4⟩
end Go.Proofs.YtokmehjofboflaaGreatDoor
namespace Go.Proofs.YtokmehjofboflaaGreatDoor
set_option maxRecDepth 100000
open Go.RowKit

set_option maxHeartbeats 2000000 in
theorem neg_any (S : Src) (hS : S.Ok) (p : Nat) (t : Int × Int) (a : Ex) (hs : Sits S.xs p (.un t a)) (hn : t.1 = 18 ∨ t.1 = 19) (T : Bytes) (hT : S.Brk (p + 1) 7 T) (hl : T.length ≤ 50000) : S.Text p (wordF t.1 ++ T) := by
  intro W hW
  have hc0 := (hS.cells hs hW).1
  have hlt := hs.lt
  have hfew := hS.few
  have q0 : (0 : Int) ≤ (p : Int) := by omega
  have q1 : (p : Int) < (S.xs.length : Int) := by omega
  unfold Src.Brk at hT
  have ep : ((p + 1 : Nat) : Int) = (p : Int) + 1 := by omega
  have e7 : ((7 : Nat) : Int) = 7 := rfl
  rw [ep, e7] at hT
  have HB := Lib.hid (fun W' (h : Below W.heap.size W W') => hT W' (hW.trans (h.mono hW.size)))
  obtain ⟨op, arg⟩ := t
  change W.cell? _ = some (.int .i64 op) at hc0
  dsimp only at hn ⊢
  have hlv := levelE_any op
  have key : ∀ (k : Nat), op = (k : Int) → k < 44 → (wordF (k : Int)).length ≤ 6 → (∀ W, (Op.stringOp .add (mkS (wordF (k : Int))) (mkS T)).run Tryz.prog W = .ok (.string (mkS (wordF (k : Int) ++ T))) W) := fun k _ _ h W => mkS_add _ _ (by omega) (by omega) W
  clear hs hW hS hT
  generalize S.xs.length = m at *
  rcases hn with rfl | rfl
  · have HW := Lib.hid (fun W => wordE_any 18 (by omega) W)
    have add1 := key 18 rfl (by omega) (by decide)
    rw [show ((18 : Nat) : Int) = 18 from rfl] at HW add1
    have hv : lvF 18 = 7 := rfl
    rw [hv] at hlv
    generalize mkS (wordF 18 ++ T) = z2 at *
    generalize mkS (wordF 18) = z1 at *
    clear key
    go_enter Tryz.func31, Tryz.ntmps31
    go_wp2_with (first
      | (go_at_call 68; refine (hlv _).mono ?_; rintro e w2 ⟨rfl, rfl⟩)
      | (go_at_call 70; refine (HW.out _).mono ?_; rintro e w4 ⟨rfl, hb4⟩)
      | (go_at_call 71; refine (HB.out _ hb4).mono ?_; rintro e w5 ⟨rfl, hb5⟩))
    go_ret
    exact ⟨rfl, hb4.trans (hb5.mono hb4.size)⟩
  · have HW := Lib.hid (fun W => wordE_any 19 (by omega) W)
    have add1 := key 19 rfl (by omega) (by decide)
    rw [show ((19 : Nat) : Int) = 19 from rfl] at HW add1
    have hv : lvF 19 = 7 := rfl
    rw [hv] at hlv
    generalize mkS (wordF 19 ++ T) = z2 at *
    generalize mkS (wordF 19) = z1 at *
    clear key
    go_enter Tryz.func31, Tryz.ntmps31
    go_wp2_with (first
      | (go_at_call 68; refine (hlv _).mono ?_; rintro e w2 ⟨rfl, rfl⟩)
      | (go_at_call 70; refine (HW.out _).mono ?_; rintro e w4 ⟨rfl, hb4⟩)
      | (go_at_call 71; refine (HB.out _ hb4).mono ?_; rintro e w5 ⟨rfl, hb5⟩))
    go_ret
    exact ⟨rfl, hb4.trans (hb5.mono hb4.size)⟩
set_option maxHeartbeats 2000000 in
theorem aggt_any (S : Src) (hS : S.Ok) (p : Nat) (t : Int × Int) (a : Ex) (hs : Sits S.xs p (.un t a)) (hn : 20 ≤ t.1 ∧ t.1 ≤ 29) (T : Bytes) (hT : S.Text (p + 1) T) (hl : T.length ≤ 50000) : S.Text p (wordF t.1 ++ prn T) := by
  intro W hW
  have hc0 := (hS.cells hs hW).1
  have hlt := hs.lt
  have hfew := hS.few
  have q0 : (0 : Int) ≤ (p : Int) := by omega
  have q1 : (p : Int) < (S.xs.length : Int) := by omega
  unfold Src.Text at hT
  have ep : ((p + 1 : Nat) : Int) = (p : Int) + 1 := by omega
  rw [ep] at hT
  have HB := Lib.hid (fun W' (h : Below W.heap.size W W') => hT W' (hW.trans (h.mono hW.size)))
  obtain ⟨op, arg⟩ := t
  change W.cell? _ = some (.int .i64 op) at hc0
  dsimp only at hn ⊢
  have hlv := levelE_any op
  have hag := fun W => aggR_any op W
  rw [agg_yes hn] at hag
  obtain ⟨k, rfl⟩ : ∃ k : Nat, op = (k : Int) := ⟨op.toNat, by omega⟩
  have HW := Lib.hid (fun W => wordE_any k (by omega) W)
  have hwl : (wordF (k : Int)).length ≤ 6 := (agg_word hn).2.2.2.2.2.2
  have add1 : ∀ W, (Op.stringOp .add (mkS (wordF (k : Int))) ⟨#[40]⟩).run Tryz.prog W = .ok (.string (mkS (wordF (k : Int) ++ [40]))) W := fun W => mkS_add _ [40] (by omega) (by simp) W
  have add2 : ∀ W, (Op.stringOp .add (mkS (wordF (k : Int) ++ [40])) (mkS T)).run Tryz.prog W = .ok (.string (mkS (wordF (k : Int) ++ [40] ++ T))) W := fun W => mkS_add _ _ (by simp; omega) (by omega) W
  have add3 : ∀ W, (Op.stringOp .add (mkS (wordF (k : Int) ++ [40] ++ T)) ⟨#[41]⟩).run Tryz.prog W = .ok (.string (mkS (wordF (k : Int) ++ prn T))) W := fun W => by
    have := mkS_add (wordF (k : Int) ++ [40] ++ T) [41] (by simp; omega) (by simp) W
    have e : wordF (k : Int) ++ [40] ++ T ++ [41] = wordF (k : Int) ++ prn T := by simp [prn]
    rw [e] at this
    exact this
  have d1 : ((k : Int) == 1) = false := by simp; omega
  have d5 : ((k : Int) == 5) = false := by simp; omega
  have d12 : ((k : Int) == 12) = false := by simp; omega
  have d18 : ((k : Int) == 18) = false := by simp; omega
  have d19 : ((k : Int) == 19) = false := by simp; omega
  clear hs hW hS hT hwl
  generalize S.xs.length = m at *
  generalize mkS (wordF (k : Int) ++ prn T) = z4 at *
  generalize mkS (wordF (k : Int) ++ [40] ++ T) = z3 at *
  generalize mkS (wordF (k : Int) ++ [40]) = z2 at *
  generalize mkS (wordF (k : Int)) = z1 at *
  generalize lvF (k : Int) = l at *
  go_enter Tryz.func31, Tryz.ntmps31
  go_wp2_with (first
    | (go_at_call 68; refine (hlv _).mono ?_; rintro e w2 ⟨rfl, rfl⟩)
    | (go_at_call 72; refine (hag _).mono ?_; rintro e w3 ⟨rfl, rfl⟩)
    | (go_at_call 70; refine (HW.out _).mono ?_; rintro e w4 ⟨rfl, hb4⟩)
    | (go_at_call 31; refine (HB.out _ hb4).mono ?_; rintro e w5 ⟨rfl, hb5⟩))
  go_ret
  exact ⟨rfl, hb4.trans (hb5.mono hb4.size)⟩
end Go.Proofs.YtokmehjofboflaaGreatDoor
namespace Go.Proofs.YtokmehjofboflaaGreatDoor
set_option maxRecDepth 100000
open Go.RowKit

set_option maxHeartbeats 4000000 in
theorem bi_any (S : Src) (hS : S.Ok) (p : Nat) (t : Int × Int) (a b : Ex) (hs : Sits S.xs p (.bi t a b)) (hw : (Ex.bi t a b).wf) (l1 l2 : Nat) (h1 : l1 = if lvF t.1 = 4 then 5 else lvF t.1) (h2 : l2 = if lvF t.1 = 4 then 5 else lvF t.1 + 1) (T U : Bytes)
    (hT : S.Brk (p + 1) l1 T) (hU : S.Brk (p + 1 + a.flat.length) l2 U) (hl : T.length ≤ 30000) (hl2 : U.length ≤ 30000) : S.Text p (T ++ 32 :: (wordF t.1 ++ 32 :: U)) := by
  intro W hW
  have hc0 := (hS.cells hs hW).1
  have hlt := hs.lt
  have hle := hs.le
  have hfew := hS.few
  have q0 : (0 : Int) ≤ (p : Int) := by omega
  have q1 : (p : Int) < (S.xs.length : Int) := by omega
  unfold Src.Brk at hT hU
  have ep : ((p + 1 : Nat) : Int) = (p : Int) + 1 := by omega
  rw [ep] at hT
  have HA := Lib.hid (fun W' (h : Below W.heap.size W W') => hT W' (hW.trans (h.mono hW.size)))
  have HB := Lib.hid (fun W' (h : Below W.heap.size W W') => hU W' (hW.trans (h.mono hW.size)))
  have hop := opd_bi hs hw
  have HO := Lib.hid (fun W' (h : Below W.heap.size W W') => operandR_any (some ⟨S.b, S.o, none⟩) S.c S.xs p 1 W' (hS.links.below (hW.trans (h.mono hW.size))) (by omega))
  rw [hop] at HO
  have hr := ar_bi hw.1
  obtain ⟨op, arg⟩ := t
  change W.cell? _ = some (.int .i64 op) at hc0
  dsimp only at hr h1 h2 ⊢
  have hlv := levelE_any op
  have hag := fun W => aggR_any op W
  rw [agg_no (by omega)] at hag
  obtain ⟨k, rfl⟩ : ∃ k : Nat, op = (k : Int) := ⟨op.toNat, by omega⟩
  have HW := Lib.hid (fun W => wordE_any k (by omega) W)
  obtain ⟨_, _, _, s5, s6, s7⟩ := sign_word hr
  have add1 : ∀ W, (Op.stringOp .add (mkS T) ⟨#[32]⟩).run Tryz.prog W = .ok (.string (mkS (T ++ [32]))) W := fun W => mkS_add _ [32] (by omega) (by simp) W
  have add2 : ∀ W, (Op.stringOp .add (mkS (T ++ [32])) (mkS (wordF (k : Int)))).run Tryz.prog W = .ok (.string (mkS (T ++ [32] ++ wordF (k : Int)))) W := fun W => mkS_add _ _ (by simp; omega) (by omega) W
  have add3 : ∀ W, (Op.stringOp .add (mkS (T ++ [32] ++ wordF (k : Int))) ⟨#[32]⟩).run Tryz.prog W = .ok (.string (mkS (T ++ [32] ++ wordF (k : Int) ++ [32]))) W := fun W => mkS_add _ [32] (by simp; omega) (by simp) W
  have add4 : ∀ W, (Op.stringOp .add (mkS (T ++ [32] ++ wordF (k : Int) ++ [32])) (mkS U)).run Tryz.prog W = .ok (.string (mkS (T ++ 32 :: (wordF (k : Int) ++ 32 :: U)))) W := fun W => by
    have := mkS_add (T ++ [32] ++ wordF (k : Int) ++ [32]) U (by simp; omega) (by omega) W
    have e : T ++ [32] ++ wordF (k : Int) ++ [32] ++ U = T ++ 32 :: (wordF (k : Int) ++ 32 :: U) := by simp
    rw [e] at this
    exact this
  have d1 : ((k : Int) == 1) = false := by simp; omega
  have d5 : ((k : Int) == 5) = false := by simp; omega
  have d12 : ((k : Int) == 12) = false := by simp; omega
  have d18 : ((k : Int) == 18) = false := by simp; omega
  have d19 : ((k : Int) == 19) = false := by simp; omega
  have d43 : ((k : Int) == 43) = false := by simp; omega
  clear hs hW hS hT hU hop hw hle s7
  generalize S.xs.length = m at *
  generalize mkS (T ++ 32 :: (wordF (k : Int) ++ 32 :: U)) = z5 at *
  generalize mkS (T ++ [32] ++ wordF (k : Int) ++ [32]) = z4 at *
  generalize mkS (T ++ [32] ++ wordF (k : Int)) = z3 at *
  generalize mkS (T ++ [32]) = z2 at *
  generalize mkS (wordF (k : Int)) = z1 at *
  generalize mkS T = zt at *
  generalize mkS U = zu at *
  generalize p + 1 + a.flat.length = q at *
  generalize lvF (k : Int) = l at *
  by_cases h4 : l = 4
  · rw [if_pos h4] at h1 h2
    subst h1 h2 h4
    rw [show ((5 : Nat) : Int) = 5 from rfl] at HA HB
    rw [show ((4 : Nat) : Int) = 4 from rfl] at hlv
    go_enter Tryz.func31, Tryz.ntmps31
    go_wp2_with (first
      | (go_at_call 68; refine (hlv _).mono ?_; rintro e w2 ⟨rfl, rfl⟩)
      | (go_at_call 72; refine (hag _).mono ?_; rintro e w3 ⟨rfl, rfl⟩)
      | (go_at_call 70; refine (HW.out _).mono ?_; rintro e w5 ⟨rfl, hb5⟩; have hB5 := hB4.trans (hb5.mono hB4.size))
      | (go_at_call 34; refine (HO.out _ hB5).mono ?_; rintro e w6 ⟨rfl, hb6⟩; have hB6 := hB5.trans (hb6.mono hB5.size))
      | (go_at_call 71; first
          | ((with_reducible refine (HB.out _ hB6).mono ?_); rintro e w7 ⟨rfl, hb7⟩; have hB7 := hB6.trans (hb7.mono hB6.size))
          | ((with_reducible refine (HA.out _ (Below.refl _ _)).mono ?_); rintro e w4 ⟨rfl, hB4⟩)))
    go_ret
    exact ⟨rfl, hB7⟩
  · rw [if_neg h4] at h1 h2
    subst h1 h2
    have d4 : ((l1 : Int) == 4) = false := by simp; omega
    have d7 : (l1 : Int) < 7 := by omega
    have e1 : ((l1 + 1 : Nat) : Int) = (l1 : Int) + 1 := by omega
    rw [e1] at HB
    clear h4
    go_enter Tryz.func31, Tryz.ntmps31
    go_wp2_with (first
      | (go_at_call 68; refine (hlv _).mono ?_; rintro e w2 ⟨rfl, rfl⟩)
      | (go_at_call 72; refine (hag _).mono ?_; rintro e w3 ⟨rfl, rfl⟩)
      | (go_at_call 70; refine (HW.out _).mono ?_; rintro e w5 ⟨rfl, hb5⟩; have hB5 := hB4.trans (hb5.mono hB4.size))
      | (go_at_call 34; refine (HO.out _ hB5).mono ?_; rintro e w6 ⟨rfl, hb6⟩; have hB6 := hB5.trans (hb6.mono hB5.size))
      | (go_at_call 71; first
          | ((with_reducible refine (HB.out _ hB6).mono ?_); rintro e w7 ⟨rfl, hb7⟩; have hB7 := hB6.trans (hb7.mono hB6.size))
          | ((with_reducible refine (HA.out _ (Below.refl _ _)).mono ?_); rintro e w4 ⟨rfl, hB4⟩)))
    go_ret
    exact ⟨rfl, hB7⟩
set_option maxHeartbeats 4000000 in
theorem cond_any (S : Src) (hS : S.Ok) (p : Nat) (t : Int × Int) (c a b : Ex) (hs : Sits S.xs p (.cond t c a b)) (hw : (Ex.cond t c a b).wf) (T U V : Bytes)
    (hT : S.Brk (p + 1) 2 T) (hU : S.Text (p + 1 + c.flat.length) U) (hV : S.Text (p + 1 + c.flat.length + a.flat.length) V) (hl : T.length ≤ 30000) (hl2 : U.length ≤ 30000) (hl3 : V.length ≤ 30000) : S.Text p (T ++ 32 :: 63 :: 32 :: (U ++ 32 :: 58 :: 32 :: V)) := by
  intro W hW
  have hc0 := (hS.cells hs hW).1
  have hlt := hs.lt
  have hle := hs.le
  have hfew := hS.few
  have q0 : (0 : Int) ≤ (p : Int) := by omega
  have q1 : (p : Int) < (S.xs.length : Int) := by omega
  unfold Src.Brk at hT
  unfold Src.Text at hU hV
  have ep : ((p + 1 : Nat) : Int) = (p : Int) + 1 := by omega
  rw [ep, show ((2 : Nat) : Int) = 2 from rfl] at hT
  have HA := Lib.hid (fun W' (h : Below W.heap.size W W') => hT W' (hW.trans (h.mono hW.size)))
  have HB := Lib.hid (fun W' (h : Below W.heap.size W W') => hU W' (hW.trans (h.mono hW.size)))
  have HC := Lib.hid (fun W' (h : Below W.heap.size W W') => hV W' (hW.trans (h.mono hW.size)))
  have HO := Lib.hid (fun W' (h : Below W.heap.size W W') => operandR_any (some ⟨S.b, S.o, none⟩) S.c S.xs p 1 W' (hS.links.below (hW.trans (h.mono hW.size))) (by omega))
  have HP := Lib.hid (fun W' (h : Below W.heap.size W W') => operandR_any (some ⟨S.b, S.o, none⟩) S.c S.xs p 2 W' (hS.links.below (hW.trans (h.mono hW.size))) (by omega))
  rw [opd_c2 hs hw] at HO
  rw [opd_c3 hs hw] at HP
  have hr := ar_cond hw.1
  obtain ⟨op, arg⟩ := t
  change W.cell? _ = some (.int .i64 op) at hc0
  dsimp only at hr ⊢
  subst hr
  have hlv := levelE_any 43
  have hag := fun W => aggR_any 43 W
  rw [agg_no (by omega)] at hag
  have add1 : ∀ W, (Op.stringOp .add (mkS T) ⟨#[32, 63, 32]⟩).run Tryz.prog W = .ok (.string (mkS (T ++ [32, 63, 32]))) W := fun W => mkS_add _ [32, 63, 32] (by omega) (by simp) W
  have add2 : ∀ W, (Op.stringOp .add (mkS (T ++ [32, 63, 32])) (mkS U)).run Tryz.prog W = .ok (.string (mkS (T ++ [32, 63, 32] ++ U))) W := fun W => mkS_add _ _ (by simp; omega) (by omega) W
  have add3 : ∀ W, (Op.stringOp .add (mkS (T ++ [32, 63, 32] ++ U)) ⟨#[32, 58, 32]⟩).run Tryz.prog W = .ok (.string (mkS (T ++ [32, 63, 32] ++ U ++ [32, 58, 32]))) W := fun W => mkS_add _ [32, 58, 32] (by simp; omega) (by simp) W
  have add4 : ∀ W, (Op.stringOp .add (mkS (T ++ [32, 63, 32] ++ U ++ [32, 58, 32])) (mkS V)).run Tryz.prog W = .ok (.string (mkS (T ++ 32 :: 63 :: 32 :: (U ++ 32 :: 58 :: 32 :: V)))) W := fun W => by
    have := mkS_add (T ++ [32, 63, 32] ++ U ++ [32, 58, 32]) V (by simp; omega) (by omega) W
    have e : T ++ [32, 63, 32] ++ U ++ [32, 58, 32] ++ V = T ++ 32 :: 63 :: 32 :: (U ++ 32 :: 58 :: 32 :: V) := by simp
    rw [e] at this
    exact this
  clear hs hW hS hT hU hV hw hle
  generalize S.xs.length = m at *
  generalize mkS (T ++ 32 :: 63 :: 32 :: (U ++ 32 :: 58 :: 32 :: V)) = z5 at *
  generalize mkS (T ++ [32, 63, 32] ++ U ++ [32, 58, 32]) = z4 at *
  generalize mkS (T ++ [32, 63, 32] ++ U) = z3 at *
  generalize mkS (T ++ [32, 63, 32]) = z2 at *
  generalize mkS T = zt at *
  generalize mkS U = zu at *
  generalize mkS V = zv at *
  generalize p + 1 + c.flat.length + a.flat.length = q2 at *
  generalize p + 1 + c.flat.length = q at *
  generalize lvF 43 = l at *
  go_enter Tryz.func31, Tryz.ntmps31
  go_wp2_with (first
    | (go_at_call 68; refine (hlv _).mono ?_; rintro e w2 ⟨rfl, rfl⟩)
    | (go_at_call 72; refine (hag _).mono ?_; rintro e w3 ⟨rfl, rfl⟩)
    | (go_at_call 71; refine (HA.out _ (Below.refl _ _)).mono ?_; rintro e w4 ⟨rfl, hB4⟩)
    | (go_at_call 34; first
        | ((with_reducible refine (HP.out _ hB6).mono ?_); rintro e w7 ⟨rfl, hb7⟩; have hB7 := hB6.trans (hb7.mono hB6.size))
        | ((with_reducible refine (HO.out _ hB4).mono ?_); rintro e w5 ⟨rfl, hb5⟩; have hB5 := hB4.trans (hb5.mono hB4.size)))
    | (go_at_call 31; first
        | ((with_reducible refine (HC.out _ hB7).mono ?_); rintro e w8 ⟨rfl, hb8⟩; have hB8 := hB7.trans (hb8.mono hB7.size))
        | ((with_reducible refine (HB.out _ hB5).mono ?_); rintro e w6 ⟨rfl, hb6⟩; have hB6 := hB5.trans (hb6.mono hB5.size))))
  go_ret
  exact ⟨rfl, hB8⟩
end Go.Proofs.YtokmehjofboflaaGreatDoor
namespace Go.Proofs.YtokmehjofboflaaGreatDoor
set_option maxRecDepth 100000
open Go.RowKit

theorem sized_short {ns : List Bytes} {lv : Nat} {T : Bytes} {e : List (Int × Int)} (h : Sized ns lv T e) {n : Nat} (hn : e.length ≤ n) : T.length ≤ 28 * n := by
  obtain ⟨_, _, _, h⟩ := h
  omega
theorem brk_short (k l : Nat) (T : Bytes) : (brk k l T).length ≤ T.length + 2 := by
  unfold brk
  split
  · rw [prn_len]
    omega
  · omega
theorem text_any (S : Src) (hS : S.Ok) : ∀ (x : Ex) (p : Nat), Sits S.xs p x → x.wf → x.flat.all (fun t => argB t S.ns.length) = true → S.Text p (x.text S.ns)
  | .leaf t, p, hs, hw, ha => leaf_any S hS p t hs hw (all_cons ha).1
  | .un t a, p, hs, hw, ha => by
    have hr := ar_un hw.1
    obtain ⟨_, a2⟩ := all_cons ha
    have ih := text_any S hS a (p + 1) hs.un hw.2 a2
    have hl := sized_short (text_sized hS.good a hw.2 a2) (n := 1000) (by have := hs.un.le; have := hS.few; omega)
    have hb := brk_short 7 a.lv (a.text S.ns)
    unfold Ex.text
    by_cases hn : t.1 = 18 ∨ t.1 = 19
    · rw [if_pos hn]
      exact neg_any S hS p t a hs hn _ (brk_any S hS (p + 1) 7 a hs.un _ ih (by omega)) (by omega)
    · rw [if_neg hn]
      exact aggt_any S hS p t a hs (by omega) _ ih (by omega)
  | .bi t a b, p, hs, hw, ha => by
    obtain ⟨_, a2⟩ := all_cons ha
    obtain ⟨a3, a4⟩ := all_app a2
    have iha := text_any S hS a _ hs.bi1 hw.2.1 a3
    have ihb := text_any S hS b _ hs.bi2 hw.2.2 a4
    have hla := sized_short (text_sized hS.good a hw.2.1 a3) (n := 1000) (by have := hs.bi1.le; have := hS.few; omega)
    have hlb := sized_short (text_sized hS.good b hw.2.2 a4) (n := 1000) (by have := hs.bi2.le; have := hS.few; omega)
    have sa := fun k => brk_short k a.lv (a.text S.ns)
    have sb := fun k => brk_short k b.lv (b.text S.ns)
    have ba := fun k => brk_any S hS _ k a hs.bi1 _ iha (by omega)
    have bb := fun k => brk_any S hS _ k b hs.bi2 _ ihb (by omega)
    unfold Ex.text
    by_cases h4 : lvF t.1 = 4
    · rw [if_pos h4]
      exact bi_any S hS p t a b hs hw 5 5 (by rw [if_pos h4]) (by rw [if_pos h4]) _ _ (ba 5) (bb 5) (by have := sa 5; omega) (by have := sb 5; omega)
    · rw [if_neg h4]
      exact bi_any S hS p t a b hs hw (lvF t.1) (lvF t.1 + 1) (by rw [if_neg h4]) (by rw [if_neg h4]) _ _ (ba _) (bb _) (by have := sa (lvF t.1); omega) (by have := sb (lvF t.1 + 1); omega)
  | .cond t c a b, p, hs, hw, ha => by
    obtain ⟨_, a2⟩ := all_cons ha
    obtain ⟨a3, a4⟩ := all_app a2
    obtain ⟨a5, a6⟩ := all_app a4
    have ihc := text_any S hS c _ hs.c1 hw.2.1 a3
    have iha := text_any S hS a _ hs.c2 hw.2.2.1 a5
    have ihb := text_any S hS b _ hs.c3 hw.2.2.2 a6
    have hlc := sized_short (text_sized hS.good c hw.2.1 a3) (n := 1000) (by have := hs.c1.le; have := hS.few; omega)
    have hla := sized_short (text_sized hS.good a hw.2.2.1 a5) (n := 1000) (by have := hs.c2.le; have := hS.few; omega)
    have hlb := sized_short (text_sized hS.good b hw.2.2.2 a6) (n := 1000) (by have := hs.c3.le; have := hS.few; omega)
    have sc := brk_short 2 c.lv (c.text S.ns)
    unfold Ex.text
    exact cond_any S hS p t c a b hs hw _ _ _ (brk_any S hS _ 2 c hs.c1 _ ihc (by omega)) iha ihb (by omega) (by omega) (by omega)
/-- what Format answers -/
def fairE (xs : List (Int × Int)) (ns : List Bytes) : Bool := goodF ns && validE xs ns.length
theorem fair_tree {xs : List (Int × Int)} {ns : List Bytes} (h : fairE xs ns = true) : ∃ x : Ex, x.flat = xs ∧ x.wf ∧ x.flat.all (fun t => argB t ns.length) = true := by
  unfold fairE at h
  rw [Bool.and_eq_true] at h
  have hv := h.2
  unfold validE at hv
  simp only [Bool.and_eq_true, decide_eq_true_eq] at hv
  obtain ⟨x, hx, hw⟩ := one_tree hv.1.1.1.2
  exact ⟨x, hx, hw, by rw [hx]; exact hv.2⟩
theorem valid_few {xs : List (Int × Int)} {v : Int} (h : validE xs v = true) : 0 < xs.length ∧ xs.length ≤ 200 := by
  unfold validE at h
  simp only [Bool.and_eq_true, decide_eq_true_eq] at h
  have h1 := oneB_iff.1 h.1.1.1.2
  have := eat_le h1
  omega
set_option maxHeartbeats 2000000 in
theorem formatR_bad (a : Option Addr) (c : Nat) (xs : List (Int × Int)) (na : Option Addr) (nc : Nat) (ns : List Bytes) (w : World) (hX : LinksAt w a xs) (hN : NamesAt w na ns) (hc : ns.length ≤ nc) (hn : ns.length ≤ 1000000) (hx : xs.length ≤ 1000) (hf : fairE xs ns = false) :
    Calls Tryz.prog 16 #[.slice a xs.length c, .slice na ns.length nc] w fun e w' => e = .returned (.tuple #[.string (mkS []), .int .i64 7]) ∧ Below w.heap.size w w' := by
  have HG := Lib.hid (goodR_any na nc ns w hN hc hn)
  have HV := Lib.hid (fun W (h : Below w.heap.size w W) => validR_any a c xs ns.length W (hX.below h) hx)
  unfold fairE at hf
  clear hX hN hc hn hx
  generalize xs.length = m at *
  generalize validE xs ns.length = v at *
  generalize ns.length = nn at *
  cases hg : goodF ns with
  | false =>
    rw [hg] at HG
    clear HV hf hg
    go_enter Tryz.func16, Tryz.ntmps16
    go_wp2_with (go_at_call 23; refine HG.out.mono ?_; rintro e w1 ⟨rfl, hb⟩)
    go_ret2
    exact ⟨rfl, hb⟩
  | true =>
    rw [hg] at HG
    rw [hg, Bool.true_and] at hf
    subst hf
    clear hg
    go_enter Tryz.func16, Tryz.ntmps16
    go_wp2_with (first | (go_at_call 23; refine HG.out.mono ?_; rintro e w1 ⟨rfl, hb⟩) | (go_at_call 27; refine (HV.out _ hb).mono ?_; rintro e w2 ⟨rfl, hb2⟩))
    go_ret2
    exact ⟨rfl, hb.trans (hb2.mono hb.size)⟩
set_option maxHeartbeats 2000000 in
theorem formatR_ok (a : Option Addr) (c : Nat) (xs : List (Int × Int)) (na : Option Addr) (nc : Nat) (ns : List Bytes) (w : World) (hX : LinksAt w a xs) (hN : NamesAt w na ns) (hc : ns.length ≤ nc) (hf : fairE xs ns = true) (x : Ex) (hx : x.flat = xs) (hw : x.wf) :
    Calls Tryz.prog 16 #[.slice a xs.length c, .slice na ns.length nc] w fun e w' => e = .returned (.tuple #[.string (mkS (x.text ns)), .int .i64 0]) ∧ Below w.heap.size w w' := by
  have hf2 := hf
  unfold fairE at hf2
  rw [Bool.and_eq_true] at hf2
  obtain ⟨hg, hv⟩ := hf2
  obtain ⟨hv0, hv200⟩ := valid_few hv
  have hns := good_few hg
  have HG := Lib.hid (goodR_any na nc ns w hN hc (by omega))
  have HV := Lib.hid (fun W (h : Below w.heap.size w W) => validR_any a c xs ns.length W (hX.below h) (by omega))
  rw [hg] at HG
  rw [hv] at HV
  obtain ⟨b, o, rfl, _⟩ := hX.row hv0
  have ha : x.flat.all (fun t => argB t ns.length) = true := by
    rw [hx]
    unfold validE at hv
    simp only [Bool.and_eq_true, decide_eq_true_eq] at hv
    exact hv.2
  have hT := text_any (Src.mk w b o c xs na nc ns) ⟨hX, hN, hg, by show xs.length ≤ 1000; omega⟩ x 0 ⟨[], by rw [hx]; simp⟩ hw ha
  unfold Src.Text at hT
  dsimp only at hT
  have HT := Lib.hid hT
  have hlen : (x.text ns).length ≤ 5600 := by
    have := sized_short (text_sized hg x hw ha) (n := 200) (by rw [hx]; omega)
    omega
  have hsz : (mkS (x.text ns)).size = (x.text ns).length := mkS_size _
  have hlt : decide ((16384 : Int) < ((mkS (x.text ns)).size : Int)) = false := by rw [hsz]; simp; omega
  clear hX hN hc hf hg hv hx hw ha hT hsz hlen
  generalize xs.length = m at *
  generalize mkS (x.text ns) = z at *
  generalize ns.length = nn at *
  go_enter Tryz.func16, Tryz.ntmps16
  go_wp2_with (first | (go_at_call 23; refine HG.out.mono ?_; rintro e w1 ⟨rfl, hb⟩) | (go_at_call 27; refine (HV.out _ hb).mono ?_; rintro e w2 ⟨rfl, hb2⟩; have hB2 := hb.trans (hb2.mono hb.size)) | (go_at_call 31; refine (HT.out _ hB2).mono ?_; rintro e w3 ⟨rfl, hb3⟩; have hB3 := hB2.trans (hb3.mono hB2.size)))
  go_ret2
  exact ⟨rfl, hB3⟩
end Go.Proofs.YtokmehjofboflaaGreatDoor
