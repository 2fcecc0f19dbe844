/- What Check and Valid of the program's types answer. -/
import Derived.Test.YtckofngclgkajaaTypK5
namespace Go.Proofs.Ytckofngclgkajaa
set_option maxRecDepth 100000
open Go.RowKit Go.Maps

/-- what Check answers -/
noncomputable def checkF (p : ProgV) : Int :=
  if ¬ (1 ≤ p.vars.length ∧ p.vars.length ≤ 6 ∧ p.rules.length ≤ 12) then 3
  else if namedF p = false then 5
  else if p.vars.all numbersF = false then 2
  else if (p.rules.all fun r => formedF r p.vars.length) = false then 7
  else if (p.rules.all fun r => typedF r (p.vars.map VarV.kind)) = false then 6
  else 0
/-- a program of no more than so many parts -/
structure ProgV.Few (p : ProgV) : Prop where
  vars : p.vars.length ≤ 1000
  rules : p.rules.length ≤ 1000
  each : ∀ r ∈ p.rules, r.Few
set_option maxHeartbeats 8000000 in
theorem checkP_any (p : ProgV) (w : World) (hP : p.At w) (hF : p.Few) :
    Calls Try.prog 16 #[p.value] w fun e w' => e = .returned (.int .i64 (checkF p)) ∧ Below w.heap.size w w' := by
  have HN := Lib.hid (fun W (hb : Below w.heap.size w W) => namedP_any p W (hP.below hb) hF.vars hF.rules)
  have HV := Lib.hid (fun W (hb : Below w.heap.size w W) => contV_any p.va p.vc p.vars W (hP.vrow.below hb) hF.vars)
  have HR := Lib.hid (fun W (hb : Pbox p.name p.va p.vars.length p.vc p.ra p.rules.length p.rc w W) => contR_any p.ra p.rc p.rules w.heap.size p.vars.length p.vc p.va W (hP.rrow.below hb.bel) (fun r hr => (hP.rules r hr).below hb.bel) hF.each hF.vars hb.c1 (by have := Below.size hb; simp at this; omega) hF.rules)
  have HT : Hid ((1 ≤ p.vars.length ∧ p.vars.length ≤ 6 ∧ p.rules.length ≤ 12) → (p.rules.all fun r => formedF r p.vars.length) = true → ∀ W, Below w.heap.size w W → Calls Try.prog 42 #[p.value] W fun e w' => e = .returned (.bool (p.rules.all fun r => typedF r (p.vars.map VarV.kind))) ∧ Below W.heap.size W w') := Lib.hid (fun h1 h2 W hb => typedP_any p W (hP.below hb) h1.1 h1.2.1 hF.rules hF.each (fun r hr => List.all_eq_true.1 h2 r hr))
  obtain ⟨z, hz⟩ : ∃ z, z = checkF p := ⟨_, rfl⟩
  rw [← hz]
  unfold checkF at hz
  have hst : Pbox p.name p.va p.vars.length p.vc p.ra p.rules.length p.rc w (w.alloc (.cells #[.string p.name, .slice p.va p.vars.length p.vc, .slice p.ra p.rules.length p.rc] 33)) := Below.refl _ _
  have HSt := Lib.hid hst
  clear hst hP hF
  generalize namedF p = bn at *
  generalize p.vars.all numbersF = bv at *
  generalize (p.rules.all fun r => formedF r p.vars.length) = br at *
  generalize (p.rules.all fun r => typedF r (p.vars.map VarV.kind)) = bt at *
  unfold ProgV.value at *
  obtain ⟨nm, va, vc, vars, ra, rc, rules⟩ := p
  dsimp only at *
  generalize vars.length = nv at *
  generalize rules.length = nr at *
  have p0c := HSt.out.c0
  have p1c := HSt.out.c1
  have p2c := HSt.out.c2
  by_cases h1 : 1 ≤ nv
  case neg =>
    rw [if_pos (by omega)] at hz
    have e0 : nv = 0 := by omega
    subst hz e0
    go_enter Try.func16, Try.ntmps16
    go_wp2
    go_ret
    exact ⟨rfl, HSt.out.bel⟩
  have n0 : ((nv : Int) == 0) = false := by simp; omega
  by_cases h2 : nv ≤ 6
  case neg =>
    rw [if_pos (by omega)] at hz
    have n6 : (6 : Int) < (nv : Int) := by omega
    subst hz
    go_enter Try.func16, Try.ntmps16
    go_wp2
    go_ret
    exact ⟨rfl, HSt.out.bel⟩
  have n6 : decide ((6 : Int) < (nv : Int)) = false := by simp; omega
  by_cases h3 : nr ≤ 12
  case neg =>
    rw [if_pos (by omega)] at hz
    have n12 : (12 : Int) < (nr : Int) := by omega
    subst hz
    go_enter Try.func16, Try.ntmps16
    go_wp2
    go_ret
    exact ⟨rfl, HSt.out.bel⟩
  have n12 : decide ((12 : Int) < (nr : Int)) = false := by simp; omega
  rw [if_neg (by omega)] at hz
  have HT2 := Lib.hid (HT.out ⟨h1, h2, h3⟩)
  clear HT h1 h2 h3
  cases bn with
  | false =>
    rw [if_pos rfl] at hz
    subst hz
    go_enter Try.func16, Try.ntmps16
    go_wp2_with (first | (go_at_call 35; refine (HN.out _ HSt.out.bel).mono ?_; rintro e w1 ⟨rfl, hb1⟩; have hB1 := HSt.out.next hb1; have p1a := hB1.c1; have p1b := hB1.c2; have p1c := hB1.c0))
    go_ret
    exact ⟨rfl, hB1.bel⟩
  | true =>
  rw [if_neg (by decide)] at hz
  cases bv with
  | false =>
    rw [if_pos rfl] at hz
    subst hz
    go_enter Try.func16, Try.ntmps16
    go_wp2_with (first | (go_at_call 35; refine (HN.out _ HSt.out.bel).mono ?_; rintro e w1 ⟨rfl, hb1⟩; have hB1 := HSt.out.next hb1; have p1a := hB1.c1; have p1b := hB1.c2; have p1c := hB1.c0) | (go_at_call 36; refine (HV.out _ hB1.bel).mono ?_; rintro e w2 ⟨rfl, hb2⟩; have hB2 := hB1.next hb2; have p2a := hB2.c1; have p2b := hB2.c2; have p2c := hB2.c0))
    go_ret
    exact ⟨rfl, hB2.bel⟩
  | true =>
  rw [if_neg (by decide)] at hz
  cases br with
  | false =>
    rw [if_pos rfl] at hz
    subst hz
    go_enter Try.func16, Try.ntmps16
    go_wp2_with (first | (go_at_call 35; refine (HN.out _ HSt.out.bel).mono ?_; rintro e w1 ⟨rfl, hb1⟩; have hB1 := HSt.out.next hb1; have p1a := hB1.c1; have p1b := hB1.c2; have p1c := hB1.c0) | (go_at_call 36; refine (HV.out _ hB1.bel).mono ?_; rintro e w2 ⟨rfl, hb2⟩; have hB2 := hB1.next hb2; have p2a := hB2.c1; have p2b := hB2.c2; have p2c := hB2.c0) | (go_at_call 39; refine (HR.out _ hB2).mono ?_; rintro e w3 ⟨rfl, hb3⟩; have hB3 := hB2.next hb3; have p3a := hB3.c1; have p3b := hB3.c2; have p3c := hB3.c0))
    go_ret
    exact ⟨rfl, hB3.bel⟩
  | true =>
  rw [if_neg (by decide)] at hz
  have HT3 := Lib.hid (HT2.out rfl)
  clear HT2
  cases bt with
  | false =>
    rw [if_pos rfl] at hz
    subst hz
    go_enter Try.func16, Try.ntmps16
    go_wp2_with (first | (go_at_call 35; refine (HN.out _ HSt.out.bel).mono ?_; rintro e w1 ⟨rfl, hb1⟩; have hB1 := HSt.out.next hb1; have p1a := hB1.c1; have p1b := hB1.c2; have p1c := hB1.c0) | (go_at_call 36; refine (HV.out _ hB1.bel).mono ?_; rintro e w2 ⟨rfl, hb2⟩; have hB2 := hB1.next hb2; have p2a := hB2.c1; have p2b := hB2.c2; have p2c := hB2.c0) | (go_at_call 39; refine (HR.out _ hB2).mono ?_; rintro e w3 ⟨rfl, hb3⟩; have hB3 := hB2.next hb3; have p3a := hB3.c1; have p3b := hB3.c2; have p3c := hB3.c0) | (go_at_call 42; refine (HT3.out _ hB3.bel).mono ?_; rintro e w4 ⟨rfl, hb4⟩; have hB4 := hB3.next hb4))
    go_ret
    exact ⟨rfl, hB4.bel⟩
  | true =>
    rw [if_neg (by decide)] at hz
    subst hz
    go_enter Try.func16, Try.ntmps16
    go_wp2_with (first | (go_at_call 35; refine (HN.out _ HSt.out.bel).mono ?_; rintro e w1 ⟨rfl, hb1⟩; have hB1 := HSt.out.next hb1; have p1a := hB1.c1; have p1b := hB1.c2; have p1c := hB1.c0) | (go_at_call 36; refine (HV.out _ hB1.bel).mono ?_; rintro e w2 ⟨rfl, hb2⟩; have hB2 := hB1.next hb2; have p2a := hB2.c1; have p2b := hB2.c2; have p2c := hB2.c0) | (go_at_call 39; refine (HR.out _ hB2).mono ?_; rintro e w3 ⟨rfl, hb3⟩; have hB3 := hB2.next hb3; have p3a := hB3.c1; have p3b := hB3.c2; have p3c := hB3.c0) | (go_at_call 42; refine (HT3.out _ hB3.bel).mono ?_; rintro e w4 ⟨rfl, hb4⟩; have hB4 := hB3.next hb4))
    go_ret
    exact ⟨rfl, hB4.bel⟩
theorem validP7_any (p : ProgV) (w : World) (hP : p.At w) (hF : p.Few) :
    Calls Try.prog 18 #[p.value] w fun e w' => e = .returned (.bool (decide (checkF p = 0))) ∧ Below w.heap.size w w' := by
  have HC := Lib.hid (fun W (hb : Below w.heap.size w W) => checkP_any p W (hP.below hb) hF)
  generalize checkF p = z at *
  unfold ProgV.value at *
  obtain ⟨nm, va, vc, vars, ra, rc, rules⟩ := p
  dsimp only at *
  clear hP hF
  generalize vars.length = nv at *
  generalize rules.length = nr at *
  go_enter Try.func18, Try.ntmps18
  go_wp2_with (go_at_call 16; refine (HC.out _ (below_alloc7 _ _)).mono ?_; rintro e w1 ⟨rfl, hb1⟩)
  go_ret
  exact ⟨by first | rfl | exact ret_bool (by simp) | simp, belT hb1⟩
end Go.Proofs.Ytckofngclgkajaa
