/- What Text and Format of the specification of layer 6 answer. -/
import Derived.Test.YtokmehjofboflaaDoorExprPM
import Derived.Test.YtokmehjofboflaaDoorExprOut
import Derived.Test.YtokmehjofboflaaDoorExprOper
import Derived.Test.YtokmehjofboflaaDoorTermR5
namespace Go.Proofs.YtokmehjofboflaaDoor
set_option maxRecDepth 100000

theorem tree_eat : ∀ (x : Ex), x.wf → ∀ r : List (Int × Int), eat (x.flat ++ r) 1 = some x.flat.length
  | .leaf t, h, r => by
    have h0 : arF t.1 = 0 := h
    show eat (t :: r) 1 = some 1
    rw [eat_cons, if_neg (by omega), h0]
    show (eat r 0).map (· + 1) = some 1
    rw [eat_zero]
    rfl
  | .un t a, h, r => by
    have h0 : arF t.1 = 1 := h.1
    show eat (t :: (a.flat ++ r)) 1 = some (a.flat.length + 1)
    rw [eat_cons, if_neg (by omega), h0]
    show (eat (a.flat ++ r) 1).map (· + 1) = _
    rw [tree_eat a h.2]
    rfl
  | .bi t a b, h, r => by
    have h0 : arF t.1 = 2 := h.1
    show eat (t :: ((a.flat ++ b.flat) ++ r)) 1 = some ((a.flat ++ b.flat).length + 1)
    rw [eat_cons, if_neg (by omega), h0, List.append_assoc]
    show (eat (a.flat ++ (b.flat ++ r)) (1 + 1)).map (· + 1) = _
    rw [eat_add, tree_eat a h.2.1, Option.bind_some, List.drop_left, tree_eat b h.2.2]
    simp
  | .cond t c a b, h, r => by
    have h0 : arF t.1 = 3 := h.1
    show eat (t :: ((c.flat ++ (a.flat ++ b.flat)) ++ r)) 1 = some ((c.flat ++ (a.flat ++ b.flat)).length + 1)
    rw [eat_cons, if_neg (by omega), h0, List.append_assoc, List.append_assoc]
    show (eat (c.flat ++ (a.flat ++ (b.flat ++ r))) (1 + (1 + 1))).map (· + 1) = _
    rw [eat_add, tree_eat c h.2.1, Option.bind_some, List.drop_left, eat_add, tree_eat a h.2.2.1, Option.bind_some, List.drop_left, tree_eat b h.2.2.2]
    simp
/-- a tree stands at a place of a list -/
def Sits (xs : List (Int × Int)) (p : Nat) (x : Ex) : Prop := ∃ r, xs.drop p = x.flat ++ r
theorem flat_top (x : Ex) : ∃ r, x.flat = x.top :: r := by
  cases x <;> exact ⟨_, rfl⟩
theorem Sits.lt {xs : List (Int × Int)} {p : Nat} {x : Ex} (h : Sits xs p x) : p < xs.length := by
  obtain ⟨r, h⟩ := h
  obtain ⟨q, hq⟩ := flat_top x
  have := congrArg List.length h
  rw [hq] at this
  simp at this
  omega
theorem Sits.le {xs : List (Int × Int)} {p : Nat} {x : Ex} (h : Sits xs p x) : p + x.flat.length ≤ xs.length := by
  have h1 := h.lt
  obtain ⟨r, h⟩ := h
  have := congrArg List.length h
  simp at this
  omega
theorem Sits.top {xs : List (Int × Int)} {p : Nat} {x : Ex} (h : Sits xs p x) : toA xs p = x.top.1 ∧ wtA xs p = x.top.2 := by
  have h1 := h.lt
  obtain ⟨r, h⟩ := h
  obtain ⟨q, hq⟩ := flat_top x
  rw [drop_tm h1, hq, List.cons_append] at h
  injection h with h _
  rw [← h]
  exact ⟨rfl, rfl⟩
theorem Sits.end_ {xs : List (Int × Int)} {p : Nat} {x : Ex} (h : Sits xs p x) (hw : x.wf) : endF xs p = (p + x.flat.length : Nat) := by
  obtain ⟨r, h⟩ := h
  exact endF_some (by rw [h]; exact tree_eat x hw r)
theorem Sits.un {xs : List (Int × Int)} {p : Nat} {t : Int × Int} {a : Ex} (h : Sits xs p (.un t a)) : Sits xs (p + 1) a := by
  obtain ⟨r, h⟩ := h
  exact ⟨r, by rw [← List.drop_drop, h]; rfl⟩
theorem Sits.bi1 {xs : List (Int × Int)} {p : Nat} {t : Int × Int} {a b : Ex} (h : Sits xs p (.bi t a b)) : Sits xs (p + 1) a := by
  obtain ⟨r, h⟩ := h
  exact ⟨b.flat ++ r, by rw [← List.drop_drop, h, ← List.append_assoc]; rfl⟩
theorem Sits.bi2 {xs : List (Int × Int)} {p : Nat} {t : Int × Int} {a b : Ex} (h : Sits xs p (.bi t a b)) : Sits xs (p + 1 + a.flat.length) b := by
  obtain ⟨r, h⟩ := h
  refine ⟨r, ?_⟩
  have e : xs.drop (p + 1) = a.flat ++ (b.flat ++ r) := by
    rw [← List.drop_drop, h, ← List.append_assoc]
    rfl
  rw [← List.drop_drop, e, List.drop_left]
theorem Sits.c1 {xs : List (Int × Int)} {p : Nat} {t : Int × Int} {c a b : Ex} (h : Sits xs p (.cond t c a b)) : Sits xs (p + 1) c := by
  obtain ⟨r, h⟩ := h
  exact ⟨a.flat ++ b.flat ++ r, by rw [← List.drop_drop, h, ← List.append_assoc]; rfl⟩
theorem Sits.c2 {xs : List (Int × Int)} {p : Nat} {t : Int × Int} {c a b : Ex} (h : Sits xs p (.cond t c a b)) : Sits xs (p + 1 + c.flat.length) a := by
  obtain ⟨r, h⟩ := h
  refine ⟨b.flat ++ r, ?_⟩
  have e : xs.drop (p + 1) = c.flat ++ (a.flat ++ (b.flat ++ r)) := by
    rw [← List.drop_drop, h]
    show (c.flat ++ (a.flat ++ b.flat)) ++ r = _
    simp
  rw [← List.drop_drop, e, List.drop_left]
theorem Sits.c3 {xs : List (Int × Int)} {p : Nat} {t : Int × Int} {c a b : Ex} (h : Sits xs p (.cond t c a b)) : Sits xs (p + 1 + c.flat.length + a.flat.length) b := by
  obtain ⟨r, h⟩ := h
  refine ⟨r, ?_⟩
  have e : xs.drop (p + 1) = c.flat ++ (a.flat ++ (b.flat ++ r)) := by
    rw [← List.drop_drop, h]
    show (c.flat ++ (a.flat ++ b.flat)) ++ r = _
    simp
  rw [← List.drop_drop, ← List.drop_drop, e, List.drop_left, List.drop_left]
theorem opd_place {xs : List (Int × Int)} {p k : Nat} {x : Ex} (h : Sits xs p x) (hw : x.wf) (hk : (k : Int) < arF x.top.1) : opdF xs p k = placeF xs p k := by
  unfold opdF
  rw [h.end_ hw, Int.toNat_natCast, Int.toNat_natCast, h.top.1, if_neg]
  omega
theorem opd_bi {xs : List (Int × Int)} {p : Nat} {t : Int × Int} {a b : Ex} (h : Sits xs p (.bi t a b)) (hw : (Ex.bi t a b).wf) : opdF xs p 1 = (p + 1 + a.flat.length : Nat) := by
  have e := opd_place (k := 1) h hw (by show ((1 : Nat) : Int) < arF t.1; have := hw.1; omega)
  rw [show ((1 : Nat) : Int) = 1 from rfl] at e
  rw [e]
  show endF xs ((p : Int) + 1) = _
  rw [show (p : Int) + 1 = ((p + 1 : Nat) : Int) by omega]
  exact h.bi1.end_ hw.2.1
theorem opd_c2 {xs : List (Int × Int)} {p : Nat} {t : Int × Int} {c a b : Ex} (h : Sits xs p (.cond t c a b)) (hw : (Ex.cond t c a b).wf) : opdF xs p 1 = (p + 1 + c.flat.length : Nat) := by
  have e := opd_place (k := 1) h hw (by show ((1 : Nat) : Int) < arF t.1; have := hw.1; omega)
  rw [show ((1 : Nat) : Int) = 1 from rfl] at e
  rw [e]
  show endF xs ((p : Int) + 1) = _
  rw [show (p : Int) + 1 = ((p + 1 : Nat) : Int) by omega]
  exact h.c1.end_ hw.2.1
theorem opd_c3 {xs : List (Int × Int)} {p : Nat} {t : Int × Int} {c a b : Ex} (h : Sits xs p (.cond t c a b)) (hw : (Ex.cond t c a b).wf) : opdF xs p 2 = (p + 1 + c.flat.length + a.flat.length : Nat) := by
  have e := opd_place (k := 2) h hw (by show ((2 : Nat) : Int) < arF t.1; have := hw.1; omega)
  rw [show ((2 : Nat) : Int) = 2 from rfl] at e
  rw [e]
  show endF xs (endF xs ((p : Int) + 1)) = _
  rw [show (p : Int) + 1 = ((p + 1 : Nat) : Int) by omega, h.c1.end_ hw.2.1]
  exact h.c2.end_ hw.2.2.1
end Go.Proofs.YtokmehjofboflaaDoor
namespace Go.Proofs.YtokmehjofboflaaDoor
set_option maxRecDepth 100000
open Go.RowKit

/-- an expression and names in memory -/
structure Src where
  w : World
  b : Nat
  o : Nat
  c : Nat
  xs : List (Int × Int)
  na : Option Addr
  nc : Nat
  ns : List Bytes
structure Src.Ok (S : Src) : Prop where
  links : LinksAt S.w (some ⟨S.b, S.o, none⟩) S.xs
  names : NamesAt S.w S.na S.ns
  good : goodF S.ns = true
  few : S.xs.length ≤ 1000
theorem Src.Ok.cells {S : Src} (h : S.Ok) {p : Nat} {x : Ex} (hs : Sits S.xs p x) {W : World} (hb : Below S.w.heap.size S.w W) :
    W.cell? ⟨S.b, S.o + p * 2, none⟩ = some (.int .i64 x.top.1) ∧ W.cell? ⟨S.b, S.o + p * 2 + 1, none⟩ = some (.int .i64 x.top.2) := by
  have hl := hs.lt
  obtain ⟨b, o, e, _, hc⟩ := (h.links.below hb).row (by omega)
  injection e with e
  injection e with e1 e2
  rw [e1, e2, ← hs.top.1, ← hs.top.2]
  exact hc p hl
theorem agg_no {op : Int} (h : ¬ (20 ≤ op ∧ op ≤ 29)) : aggF op = false := decide_eq_false h
theorem agg_yes {op : Int} (h : 20 ≤ op ∧ op ≤ 29) : aggF op = true := decide_eq_true h
end Go.Proofs.YtokmehjofboflaaDoor
namespace Go.Proofs.YtokmehjofboflaaDoor
set_option maxRecDepth 100000
open Go.RowKit

end Go.Proofs.YtokmehjofboflaaDoor
namespace Go.Proofs.YtokmehjofboflaaDoor
set_option maxRecDepth 100000
open Go.RowKit

end Go.Proofs.YtokmehjofboflaaDoor
namespace Go.Proofs.YtokmehjofboflaaDoor
set_option maxRecDepth 100000
open Go.RowKit

theorem sized_short {ns : List Bytes} {lv : Nat} {T : Bytes} {e : List (Int × Int)} (h : Sized ns lv T e) {n : Nat} (hn : e.length ≤ n) : T.length ≤ 28 * n := by
  obtain ⟨_, _, _, h⟩ := h
  omega
theorem brk_short (k l : Nat) (T : Bytes) : (brk k l T).length ≤ T.length + 2 := by
  unfold brk
  split
  · rw [prn_len]
    omega
  · omega
/-- what Format answers -/
def fairE (xs : List (Int × Int)) (ns : List Bytes) : Bool := goodF ns && validE xs ns.length
theorem fair_tree {xs : List (Int × Int)} {ns : List Bytes} (h : fairE xs ns = true) : ∃ x : Ex, x.flat = xs ∧ x.wf ∧ x.flat.all (fun t => argB t ns.length) = true := by
  unfold fairE at h
  rw [Bool.and_eq_true] at h
  have hv := h.2
  unfold validE at hv
  simp only [Bool.and_eq_true, decide_eq_true_eq] at hv
  obtain ⟨x, hx, hw⟩ := one_tree hv.1.1.1.2
  exact ⟨x, hx, hw, by rw [hx]; exact hv.2⟩
theorem valid_few {xs : List (Int × Int)} {v : Int} (h : validE xs v = true) : 0 < xs.length ∧ xs.length ≤ 200 := by
  unfold validE at h
  simp only [Bool.and_eq_true, decide_eq_true_eq] at h
  have h1 := oneB_iff.1 h.1.1.1.2
  have := eat_le h1
  omega
end Go.Proofs.YtokmehjofboflaaDoor
