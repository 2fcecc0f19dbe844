/- The walk of TypesRefuseChanges. -/
import Derived.Test.YtckofngclgkajaaTypOwn
import Derived.Test.YtckofngclgkajaaTypW6
import Derived.Test.YtckofngclgkajaaTermMod
namespace Go.Proofs.Ytckofngclgkajaa
set_option maxRecDepth 100000
open Go.RowKit Go.Maps

section
variable {s : ByteArray} {va ra : Option Addr} {n vc m rc : Nat} {w w3 w5 : World}
theorem pbox_size {wr : World} (h : Pbox s va n vc ra m rc w wr) : w.heap.size + 1 ≤ wr.heap.size := by have := Below.size h; simpa using this
/-- behind the copy of a program's rules into a second box -/
structure F5 (R : SKind RuleV) (s : ByteArray) (va ra : Option Addr) (n vc m rc : Nat) (w w3 w5 : World) (a : Option Addr) (l c : Nat) (rs : List RuleV) : Prop where
  box : Pbox s va n vc ra m rc w w5
  own : OwnS R (w3.heap.size + 1) w5 (.slice a l c) rs
  q0 : w5.cell? ⟨w3.heap.size, 0, none⟩ = some (.string s)
  q1 : w5.cell? ⟨w3.heap.size, 1, none⟩ = some (.slice va n vc)
  q2 : w5.cell? ⟨w3.heap.size, 2, none⟩ = some (.slice ra m rc)
  qf : w5.frozen? ⟨w3.heap.size, 2, none⟩ = false
  lt : w3.heap.size < w5.heap.size
  le : w.heap.size + 1 ≤ w3.heap.size
theorem f5_of {a : Option Addr} {l c : Nat} {rs : List RuleV} (h3 : Pbox s va n vc ra m rc w w3) (O5 : OwnS ruleK (w3.heap.size + 1) w5 (.slice a l c) rs)
    (hb : Below (w3.alloc (.cells #[.string s, .slice va n vc, .slice ra m rc] 33)).heap.size (w3.alloc (.cells #[.string s, .slice va n vc, .slice ra m rc] 33)) w5) : F5 ruleK s va ra n vc m rc w w3 w5 a l c rs :=
  ⟨h3.next (belT hb), O5, boxT hb 0, boxT hb 1, boxT hb 2, (hb.frozen (p := ⟨w3.heap.size, 2, none⟩) (by simp)).trans (World.frozen?_alloc_new w3 _ _ 2), by have := hb.size; simp at this; omega, pbox_size h3⟩
end
theorem OwnS.shape_low {α : Type} {R : SKind α} {B : Nat} {w : World} {v : Value} {ss : List α} (h : OwnS R B w v ss) (k : Nat) (e : v.ownBlock = some k) : B ≤ k := (World.ownsRow.lt h k e).1
theorem grown_three {w w' : World} {g i j k : Nat} {x y z : Value} (h : w.grownBy w' (some g)) : w.grownBy (((w'.setCell ⟨g, i, none⟩ x).setCell ⟨g, j, none⟩ y).setCell ⟨g, k, none⟩ z) (some g) := ((h.trans (grown_set7 _ _ _ _)).trans (grown_set7 _ _ _ _)).trans (grown_set7 _ _ _ _)
theorem set3_others {w : World} {g i : Nat} {x y z : Value} : ∀ (b off : Nat), (b ≠ g ∨ (off < i * 3 ∨ i * 3 + 3 ≤ off)) → (((w.setCell ⟨g, i * 3, none⟩ x).setCell ⟨g, i * 3 + 1, none⟩ y).setCell ⟨g, i * 3 + 2, none⟩ z).cell? ⟨b, off, none⟩ = w.cell? ⟨b, off, none⟩ := fun b off h => by
  rw [set_other (by intro e; injection e with e1 e2; omega), set_other (by intro e; injection e with e1 e2; omega), set_other (by intro e; injection e with e1 e2; omega)]
theorem set3_new {w : World} {g i : Nat} {x y z u0 u1 u2 : Value} (h0 : w.cell? ⟨g, i * 3, none⟩ = some u0) (h1 : w.cell? ⟨g, i * 3 + 1, none⟩ = some u1) (h2 : w.cell? ⟨g, i * 3 + 2, none⟩ = some u2) (j : Nat) (hj : j < 3) :
    (((w.setCell ⟨g, i * 3, none⟩ x).setCell ⟨g, i * 3 + 1, none⟩ y).setCell ⟨g, i * 3 + 2, none⟩ z).cell? ⟨g, i * 3 + j, none⟩ = ([x, y, z] : List Value)[j]? := by
  match j, hj with
  | 0, _ => rw [Nat.add_zero, set_other (by simp), set_other (by simp)]; exact set_same h0
  | 1, _ => rw [set_other (by simp)]; exact set_same ((set_other (by simp)).trans h1)
  | 2, _ => exact set_same ((set_other (by simp)).trans ((set_other (by simp)).trans h2))
theorem row_set3 {w w' : World} {g i : Nat} {rs : List RuleV} (h : RowAt 3 RuleV.cells w (some ⟨g, 0, none⟩) rs) (r : RuleV) (hn : ∀ j, j < 3 → w'.cell? ⟨g, i * 3 + j, none⟩ = (RuleV.cells r)[j]?) (ho : ∀ off, (off < i * 3 ∨ i * 3 + 3 ≤ off) → w'.cell? ⟨g, off, none⟩ = w.cell? ⟨g, off, none⟩) (hg : g < w'.heap.size) : RowAt 3 RuleV.cells w' (some ⟨g, 0, none⟩) (rs.set i r) := by
  refine ⟨by rw [List.length_set]; exact h.size, fun _ => ⟨g, 0, rfl, hg, fun k hk j hj => ?_⟩⟩
  rw [List.length_set] at hk
  obtain ⟨b', o', e, _, hc⟩ := h.row (by omega)
  injection e with e
  injection e with e1 e2
  subst e1 e2
  rw [Nat.zero_add]
  by_cases e : i = k
  · subst e
    rw [List.getElem_set_self]
    exact hn j hj
  · rw [List.getElem_set_ne e, ho _ (by omega)]
    have := hc k hk j hj
    rwa [Nat.zero_add] at this
theorem own_set3 {α : Type} {R : SKind α} {B : Nat} {w : World} {v : Value} {ss : List α} {g i : Nat} {x y z : Value} (h : OwnS R B w v ss) (hg : g < B) : OwnS R B (((w.setCell ⟨g, i * 3, none⟩ x).setCell ⟨g, i * 3 + 1, none⟩ y).setCell ⟨g, i * 3 + 2, none⟩ z) v ss :=
  World.ownsRow.kept h (row := some g) (grown_three (World.grownBy.refl _ _)) (by
    cases hv : v.ownBlock with
    | none => exact .inl rfl
    | some k =>
      refine .inr fun e => ?_
      injection e with e
      have := World.ownsRow.lt h k hv
      omega)
theorem var_new {w w' : World} {s : VarV} (hb : Below (w.alloc (.cells #[.string s.name, .int .i64 s.kind, .int .i64 s.lo, .int .i64 s.hi, .int .i64 s.pn, .int .i64 s.pid] 56)).heap.size (w.alloc (.cells #[.string s.name, .int .i64 s.kind, .int .i64 s.lo, .int .i64 s.hi, .int .i64 s.pn, .int .i64 s.pid] 56)) w') : ∀ j u, (flatS varK [s])[j]? = some u → w'.cell? ((⟨w.heap.size, 0, none⟩ : Addr).add j) = some u := by
  intro j u h
  rw [add_none, Nat.zero_add, boxT hb j]
  have e : flatS varK [s] = [.string s.name, .int .i64 s.kind, .int .i64 s.lo, .int .i64 s.hi, .int .i64 s.pn, .int .i64 s.pid] := rfl
  rw [e] at h
  rw [← h]
  simp
theorem own_set1 {α : Type} {R : SKind α} {B : Nat} {w : World} {v : Value} {ss : List α} {g i : Nat} {x : Value} (h : OwnS R B w v ss) (hg : g < B) : OwnS R B (w.setCell ⟨g, i, none⟩ x) v ss :=
  World.ownsRow.kept h (row := some g) (grown_set7 _ _ _ _) (by
    cases hv : v.ownBlock with
    | none => exact .inl rfl
    | some k =>
      refine .inr fun e => ?_
      injection e with e
      have := World.ownsRow.lt h k hv
      omega)
theorem set_new {w w' : World} {s : SetV} (hb : Below (w.alloc (.cells #[.int .i64 s.var, .slice s.va s.val.length s.vc] 54)).heap.size (w.alloc (.cells #[.int .i64 s.var, .slice s.va s.val.length s.vc] 54)) w') : ∀ j u, (flatS setK [s])[j]? = some u → w'.cell? ((⟨w.heap.size, 0, none⟩ : Addr).add j) = some u := by
  intro j u h
  rw [add_none, Nat.zero_add, boxT hb j]
  have e : flatS setK [s] = [.int .i64 s.var, .slice s.va s.val.length s.vc] := rfl
  rw [e] at h
  rw [← h]
  simp
set_option maxHeartbeats 16000000 in
theorem typesRefuse_walk (W : World) (p : ProgV) (hP : p.At W) (k : Int) (hk : I64 k) :
    Calls Try.prog 10 #[p.value, .int .i64 k] W fun e W' => e = .returned (.bool true) ∧ Below W.heap.size W W' := by
  have HA := Lib.hid (fun w => awake7_any w)
  have HL := Lib.hid (fun w (h : Below W.heap.size W w) => lightP_two p w (hP.below h))
  have HU := Lib.hid (fun (hf : p.Few) w (h : Below W.heap.size W w) => validR7_any p w (hP.below h) hf)
  by_cases hfew : p.Few
  case neg =>
    have hst : Pbox p.name p.va p.vars.length p.vc p.ra p.rules.length p.rc W (W.alloc (.cells #[.string p.name, .slice p.va p.vars.length p.vc, .slice p.ra p.rules.length p.rc] 33)) := Below.refl _ _
    have HSt := Lib.hid hst
    clear hP hst HU
    generalize p.Few = PF at *
    unfold ProgV.value at *
    obtain ⟨nm, va, vc, vars, ra, rc, rules⟩ := p
    dsimp only at *
    generalize vars.length = nv at *
    generalize rules.length = nr at *
    have p0c := HSt.out.c0
    have p1c := HSt.out.c1
    have p2c := HSt.out.c2
    go_enter Try.func10, Try.ntmps10
    go_wp2_with (first | (go_at_call 15; refine ((HL.out _ HSt.out.bel).mono (R' := fun e w' => e = .returned (.bool false) ∧ Below (W.alloc (.cells #[.string nm, .slice va nv vc, .slice ra nr rc] 33)).heap.size (W.alloc (.cells #[.string nm, .slice va nv vc, .slice ra nr rc] 33)) w') (fun e w' h => ⟨h.1.elim id (fun h => absurd h.2 hfew), h.2⟩)).mono ?_; rintro e w2 ⟨rfl, hb2⟩; have hB2 := HSt.out.next hb2) | (go_at_call 12; refine (HA.out _).mono ?_; rintro e wa ⟨rfl, hba⟩; have hBa := hB2.next hba))
    go_ret
    exact ⟨rfl, hBa.bel⟩
  have HU2 := Lib.hid (HU.out hfew)
  have HL2 := Lib.hid (fun w (h : Below W.heap.size W w) => (HL.out w h).mono (R' := fun e w' => (e = .returned (.bool false) ∨ e = .returned (.bool true)) ∧ Below w.heap.size w w') (fun e w' h => ⟨h.1.elim .inl (fun h => .inr h.1), h.2⟩))
  clear HU HL
  by_cases hok : checkF p = 0
  case neg =>
    rw [decide_eq_false hok] at HU2
    have hst : Pbox p.name p.va p.vars.length p.vc p.ra p.rules.length p.rc W (W.alloc (.cells #[.string p.name, .slice p.va p.vars.length p.vc, .slice p.ra p.rules.length p.rc] 33)) := Below.refl _ _
    have HSt := Lib.hid hst
    clear hP hst hok hfew
    unfold ProgV.value at *
    obtain ⟨nm, va, vc, vars, ra, rc, rules⟩ := p
    dsimp only at *
    generalize vars.length = nv at *
    generalize rules.length = nr at *
    have p0c := HSt.out.c0
    have p1c := HSt.out.c1
    have p2c := HSt.out.c2
    go_enter Try.func10, Try.ntmps10
    go_wp2_with (first | (go_at_call 15; refine (HL2.out _ HSt.out.bel).mono ?_; rintro e w2 ⟨(rfl | rfl), hb2⟩ <;> (have hB2 := HSt.out.next hb2; have q0 := hB2.c0; have q1 := hB2.c1; have q2 := hB2.c2)) | (go_at_call 19; refine (HU2.out _ hB2.bel).mono ?_; rintro e w3 ⟨rfl, hb3⟩; have hB3 := hB2.next hb3; have r0 := hB3.c0; have r1 := hB3.c1; have r2 := hB3.c2) | (go_at_call 12; refine (HA.out _).mono ?_; rintro e wa ⟨rfl, hba⟩; have hBa := (show Pbox _ _ _ _ _ _ _ W wa from by first | exact hB3.next hba | exact hB2.next hba)))
    all_goals go_ret
    all_goals exact ⟨rfl, hBa.bel⟩
  rw [decide_eq_true hok] at HU2
  have hOk := ok_iff.1 hok
  by_cases hnr : p.rules.length = 0
  · have hst : Pbox p.name p.va p.vars.length p.vc p.ra p.rules.length p.rc W (W.alloc (.cells #[.string p.name, .slice p.va p.vars.length p.vc, .slice p.ra p.rules.length p.rc] 33)) := Below.refl _ _
    have HSt := Lib.hid hst
    clear hP hst hok hfew hOk
    unfold ProgV.value at *
    obtain ⟨nm, va, vc, vars, ra, rc, rules⟩ := p
    dsimp only at *
    generalize vars.length = nv at *
    generalize rules.length = nr at *
    subst hnr
    have p0c := HSt.out.c0
    have p1c := HSt.out.c1
    have p2c := HSt.out.c2
    go_enter Try.func10, Try.ntmps10
    go_wp2_with (first | (go_at_call 15; refine (HL2.out _ HSt.out.bel).mono ?_; rintro e w2 ⟨(rfl | rfl), hb2⟩ <;> (have hB2 := HSt.out.next hb2; have q0 := hB2.c0; have q1 := hB2.c1; have q2 := hB2.c2)) | (go_at_call 19; refine (HU2.out _ hB2.bel).mono ?_; rintro e w3 ⟨rfl, hb3⟩; have hB3 := hB2.next hb3; have r0 := hB3.c0; have r1 := hB3.c1; have r2 := hB3.c2) | (go_at_call 12; refine (HA.out _).mono ?_; rintro e wa ⟨rfl, hba⟩; have hBa := (show Pbox _ _ _ _ _ _ _ W wa from by first | exact hB3.next hba | exact hB2.next hba)))
    all_goals go_ret
    all_goals exact ⟨rfl, hBa.bel⟩
  have hMod := Lib.hid (fun w => mod_any k p.rules.length w hk (by omega) (by have := hfew.rules; omega))
  obtain ⟨i, hmi, hin⟩ := mod_nat k (n := p.rules.length) (by omega)
  rw [hmi] at hMod
  have hst : Pbox p.name p.va p.vars.length p.vc p.ra p.rules.length p.rc W (W.alloc (.cells #[.string p.name, .slice p.va p.vars.length p.vc, .slice p.ra p.rules.length p.rc] 33)) := Below.refl _ _
  have HSt := Lib.hid hst
  have HP := Lib.hid hP
  have HF := Lib.hid hfew
  have HO := Lib.hid hOk
  have HRr := Lib.hid (row_rule hP.rrow (by omega))
  have HRv := Lib.hid (row_var hP.vrow (by have := hOk.lim; omega))
  clear hst hok hk hmi
  obtain ⟨b, o, hra, hrc⟩ := HRr.out
  have HRc := Lib.hid hrc
  have HRA := Lib.hid hra
  have HRA' := Lib.hid hra
  clear hrc HRr
  have HPV := Lib.hid (rfl : p.value = .agg #[.string p.name, .slice p.va p.vars.length p.vc, .slice p.ra p.rules.length p.rc])
  unfold ProgV.value at HL2 HU2 ⊢
  have hnr12 := hOk.lim.2.2
  obtain ⟨nr, hnrr⟩ : ∃ nr, nr = p.rules.length := ⟨_, rfl⟩
  obtain ⟨nv, hnvv⟩ : ∃ nv, nv = p.vars.length := ⟨_, rfl⟩
  have HNr := Lib.hid hnrr
  have HNv := Lib.hid hnvv
  obtain ⟨nm, hnm⟩ : ∃ nm, nm = p.name := ⟨_, rfl⟩
  have HNm := Lib.hid hnm
  obtain ⟨va, hva⟩ : ∃ va, va = p.va := ⟨_, rfl⟩
  have HVa := Lib.hid hva
  rw [hra]
  rw [hra] at HSt HL2 HU2
  rw [← hnrr] at hnr hin hnr12 hMod HRc HSt HL2 HU2 ⊢
  rw [← hnvv] at HSt HL2 HU2 ⊢
  rw [← hnm] at HSt HL2 HU2 ⊢
  rw [← hva] at HSt HL2 HU2 ⊢
  generalize hvc : p.vc = vc at HSt HL2 HU2 ⊢
  have HVc := Lib.hid hvc
  generalize hrc2 : p.rc = rc at HSt HL2 HU2 ⊢
  have HRcc := Lib.hid hrc2
  clear hP hfew hOk hra hnrr hnvv hnm hva hvc hrc2
  have HCe : Hid (∀ w, Below W.heap.size W w → ∀ j u, (flatS ruleK p.rules)[j]? = some u → w.cell? ((⟨b, o, none⟩ : Addr).add j) = some u) := Lib.hid (fun w hb => row_cells (R := ruleK) (by have h := HP.out.rrow.below hb; rw [HRA.out] at h; exact h))
  have nr0 : ((nr : Int) == 0) = false := by simp; omega
  have p0c := HSt.out.c0
  have p1c := HSt.out.c1
  have p2c := HSt.out.c2
  go_enter Try.func10, Try.ntmps10
  go_wp2_with (first
    | (go_at_call 15; refine (HL2.out _ HSt.out.bel).mono ?_; rintro e w2 ⟨(rfl | rfl), hb2⟩ <;> (have hB2 := HSt.out.next hb2; have q0 := hB2.c0; have q1 := hB2.c1; have q2 := hB2.c2))
    | (go_at_call 19; refine (HU2.out _ hB2.bel).mono ?_; rintro e w3 ⟨rfl, hb3⟩; have hB3 := hB2.next hb3; have r0 := hB3.c0; have r1 := hB3.c1; have r2 := hB3.c2; have hBq := hB3.next (below_alloc7 w3 (.cells #[.string nm, .slice va nv vc, .slice (some ⟨b, o, none⟩) nr rc] 33)); have q2' := hBq.c2)
    | (go_at_call 12; refine (HA.out _).mono ?_; rintro e wa ⟨rfl, hba⟩; have hBa := hB2.next hba)
    | (go_at_call 24; refine (hMod.out _).mono ?_; rintro e w4 ⟨rfl, hw4⟩; subst hw4)
    | (at_builtin; refine wpList_copyS ruleK rfl _ _ rfl (w3.heap.size + 1) ⟨b, o, none⟩ rc p.rules nr HNr.out rfl rfl (HCe.out _ hBq.bel) (by omega) (by simp) ?_; intro a5 c5 w5 O5 g5; have hF5 := f5_of hB3 O5 g5; have x2 := hF5.q2; have xf := hF5.qf; have hB6 := hF5.box.setOwn (g := w3.heap.size) (i := 2) hF5.le (.slice a5 nr c5); have s2 := hB6.c2; obtain ⟨u0, u1, u2⟩ := HRc.out _ hB6.bel i hin))
  · go_ret
    exact ⟨rfl, hBa.bel⟩
  clear x2 xf s2 q0 q1 q2 r0 r1 r2 q2' nr0 p0c p1c p2c hBq
  have hi' : i < p.rules.length := by have := HNr.out; omega
  have hRAt : (rA p.rules i).At W := by rw [rA_eq hi']; exact HP.out.rules _ (List.getElem_mem hi')
  have hfrm : formedF (rA p.rules i) p.vars.length = true := by rw [rA_eq hi']; exact HO.out.form _ (List.getElem_mem hi')
  obtain ⟨hm1, hm6, _, _⟩ := formed_parts hfrm
  obtain ⟨r, hr⟩ : ∃ r, r = rA p.rules i := ⟨_, rfl⟩
  have HRr := Lib.hid hr
  rw [← hr] at hRAt hm1 hm6 u0 u1 u2 ⊢
  obtain ⟨sb, so, hsa, hsbl, hsc0⟩ := hRAt.row.row (by omega)
  have hF5le := hF5.le

  have HSc : Hid (∀ w, Below W.heap.size W w → ∀ j u, (flatS setK r.sets)[j]? = some u → w.cell? ((⟨sb, so, none⟩ : Addr).add j) = some u) := Lib.hid (fun w hb => row_cells (R := setK) (by have h := hRAt.row.below hb; rw [hsa] at h; exact h))
  obtain ⟨s0, hs00⟩ : ∃ s0, s0 = r.sets[0]'(by omega) := ⟨_, rfl⟩
  have hs0 : r.sets[0]? = some s0 := by rw [hs00, List.getElem?_eq_getElem (by omega)]
  have HS0 := Lib.hid hs0
  have HS1 : Hid (∀ w, Below W.heap.size W w → w.cell? ⟨sb, so, none⟩ = some (.int .i64 s0.var) ∧ w.cell? ⟨sb, so + 1, none⟩ = some (.slice s0.va s0.val.length s0.vc)) := Lib.hid (fun w hb => by
    have h1 := HSc.out w hb 0 (.int .i64 s0.var) (by rw [hs00]; exact flatS_at (R := setK) r.sets 0 (by omega) 0 (by decide))
    have h2 := HSc.out w hb 1 (.slice s0.va s0.val.length s0.vc) (by rw [hs00]; exact flatS_at (R := setK) r.sets 0 (by omega) 1 (by decide))
    rw [add_none] at h1 h2
    exact ⟨h1, h2⟩)
  have hc5n : nr ≤ c5 := by
    obtain ⟨_, _, e, hcap, _⟩ := hF5.own.shape
    injection e with _ e2 e3
    omega
  obtain ⟨g5, c5', hv5, hg5B, hg5l, hg5f⟩ := hF5.own.block (by omega)
  injection hv5 with hv5a hv5b hv5c
  subst hv5a hv5c
  clear hv5b
  have hrow5 := hF5.own.shape
  obtain ⟨a5', c5'', hv5', _, hrow5r, _⟩ := hrow5
  injection hv5' with hv5a hv5b hv5c
  subst hv5a
  clear hv5b hv5c
  have h5c : ∀ j, j < 3 → w5.cell? ⟨g5, i * 3 + j, none⟩ = (RuleV.cells r)[j]? := fun j hj => by
    obtain ⟨b', o', e, _, hc⟩ := hrow5r.row (by omega)
    injection e with e
    injection e with e1 e2
    subst e1 e2
    have := hc i hi' j hj
    rw [Nat.zero_add] at this
    rw [hr, rA_eq hi']
    exact this
  obtain ⟨W7, hW7⟩ : ∃ W7, W7 = ((w5.setCell ⟨w3.heap.size, 2, none⟩ (.slice (some ⟨g5, 0, none⟩) nr c5)).alloc (.cells #[.string r.name, .slice r.ga r.guard.length r.gc, .slice r.sa r.sets.length r.sc] 51)) := ⟨_, rfl⟩
  have hB7 : Pbox nm va nv vc (some ⟨b, o, none⟩) nr rc W W7 := by rw [hW7]; exact hB6.next (below_alloc7 _ _)
  have hsz6 : (w5.setCell ⟨w3.heap.size, 2, none⟩ (.slice (some ⟨g5, 0, none⟩) nr c5)).heap.size = w5.heap.size := size_set7 _ _ _
  have hsz7 : w5.heap.size < W7.heap.size := by rw [hW7, World.size_alloc, hsz6]; omega
  have hrb : ∀ j, W7.cell? ⟨w5.heap.size, j, none⟩ = (#[Value.string r.name, .slice r.ga r.guard.length r.gc, .slice r.sa r.sets.length r.sc] : Array Value)[j]? := fun j => by
    rw [hW7, ← hsz6]
    exact World.cell?_alloc_new _ _ _ j
  have hold : ∀ g j, g < w5.heap.size → g ≠ w3.heap.size → W7.cell? ⟨g, j, none⟩ = w5.cell? ⟨g, j, none⟩ := fun g j hg hne => by
    rw [hW7]
    refine ((below_alloc7 _ _).cell (p := ⟨g, j, none⟩) (by rw [hsz6]; exact hg)).trans (set_other (by intro e; injection e with e _; exact hne e.symm))
  have hq7 : W7.cell? ⟨w3.heap.size, 2, none⟩ = some (.slice (some ⟨g5, 0, none⟩) nr c5) := by
    rw [hW7]
    exact ((below_alloc7 _ _).cell (p := ⟨w3.heap.size, 2, none⟩) (by rw [hsz6]; exact hF5.lt)).trans (set_same hF5.q2)
  have hf7 : ∀ j, W7.frozen? ⟨g5, j, none⟩ = false := fun j => by
    rw [hW7]
    refine ((below_alloc7 _ _).frozen (p := ⟨g5, j, none⟩) (by rw [hsz6]; exact hg5l)).trans ?_
    rw [World.frozen?_setCell]
    exact hg5f j
  have h7t : ∀ j, j < 3 → W7.cell? ⟨g5, i * 3 + j, none⟩ = (RuleV.cells r)[j]? := fun j hj => (hold g5 _ hg5l (by omega)).trans (h5c j hj)
  have HS7 := Lib.hid (fun w (hg : W7.grownBy w (some g5)) => (⟨hg.cell hq7 (by intro e; injection e with e; dsimp only at e; omega), hg.cell (hrb 0) (by intro e; injection e with e; dsimp only at e; omega), hg.cell (hrb 1) (by intro e; injection e with e; dsimp only at e; omega), hg.cell ((hrb 2).trans (by rw [hsa]; rfl)) (by intro e; injection e with e; dsimp only at e; omega), hg.cell (HS1.out W7 hB7.bel).1 (by intro e; injection e with e; dsimp only at e; omega), hg.cell (HS1.out W7 hB7.bel).2 (by intro e; injection e with e; dsimp only at e; omega), hg⟩ : w.cell? ⟨w3.heap.size, 2, none⟩ = some (.slice (some ⟨g5, 0, none⟩) nr c5) ∧ w.cell? ⟨w5.heap.size, 0, none⟩ = some (.string r.name) ∧ w.cell? ⟨w5.heap.size, 1, none⟩ = some (.slice r.ga r.guard.length r.gc) ∧ w.cell? ⟨w5.heap.size, 2, none⟩ = some (.slice (some ⟨sb, so, none⟩) r.sets.length r.sc) ∧ w.cell? ⟨sb, so, none⟩ = some (.int .i64 s0.var) ∧ w.cell? ⟨sb, so + 1, none⟩ = some (.slice s0.va s0.val.length s0.vc) ∧ W7.grownBy w (some g5)))
  have HT7 := Lib.hid (fun w (hb : Below W7.heap.size W7 w) => (⟨(hb.cell (p := ⟨g5, i * 3, none⟩) (Nat.lt_trans hg5l hsz7)).trans (h7t 0 (by decide)), (hb.cell (p := ⟨g5, i * 3 + 1, none⟩) (Nat.lt_trans hg5l hsz7)).trans (h7t 1 (by decide)), (hb.cell (p := ⟨g5, i * 3 + 2, none⟩) (Nat.lt_trans hg5l hsz7)).trans (h7t 2 (by decide)), (hb.frozen (p := ⟨g5, i * 3, none⟩) (Nat.lt_trans hg5l hsz7)).trans (hf7 _), (hb.frozen (p := ⟨g5, i * 3 + 1, none⟩) (Nat.lt_trans hg5l hsz7)).trans (hf7 _), (hb.frozen (p := ⟨g5, i * 3 + 2, none⟩) (Nat.lt_trans hg5l hsz7)).trans (hf7 _)⟩ : w.cell? ⟨g5, i * 3, none⟩ = some (.string r.name) ∧ w.cell? ⟨g5, i * 3 + 1, none⟩ = some (.slice r.ga r.guard.length r.gc) ∧ w.cell? ⟨g5, i * 3 + 2, none⟩ = some (.slice r.sa r.sets.length r.sc) ∧ w.frozen? ⟨g5, i * 3, none⟩ = false ∧ w.frozen? ⟨g5, i * 3 + 1, none⟩ = false ∧ w.frozen? ⟨g5, i * 3 + 2, none⟩ = false))
  have HB7 := Lib.hid hB7
  have HRAt := Lib.hid hRAt
  have hq70 : ∀ j, j < 2 → W7.cell? ⟨w3.heap.size, j, none⟩ = w5.cell? ⟨w3.heap.size, j, none⟩ := fun j hj => by
    rw [hW7]
    exact ((below_alloc7 _ _).cell (p := ⟨w3.heap.size, j, none⟩) (by rw [hsz6]; exact hF5.lt)).trans (set_other (by intro e; injection e with _ e; omega))
  have HQ7 := Lib.hid (fun w (hb : Below W7.heap.size W7 w) => (⟨(hb.cell (p := ⟨w3.heap.size, 0, none⟩) (Nat.lt_trans hF5.lt hsz7)).trans ((hq70 0 (by decide)).trans hF5.q0), (hb.cell (p := ⟨w3.heap.size, 1, none⟩) (Nat.lt_trans hF5.lt hsz7)).trans ((hq70 1 (by decide)).trans hF5.q1), (hb.cell (p := ⟨w3.heap.size, 2, none⟩) (Nat.lt_trans hF5.lt hsz7)).trans hq7⟩ : w.cell? ⟨w3.heap.size, 0, none⟩ = some (.string nm) ∧ w.cell? ⟨w3.heap.size, 1, none⟩ = some (.slice va nv vc) ∧ w.cell? ⟨w3.heap.size, 2, none⟩ = some (.slice (some ⟨g5, 0, none⟩) nr c5)))
  have HG5 := Lib.hid (fun w (hb : Below W7.heap.size W7 w) (off : Nat) => (hb.cell (p := ⟨g5, off, none⟩) (Nat.lt_trans hg5l hsz7)).trans (hold g5 off hg5l (by omega)))
  have HRow5 := Lib.hid hrow5r
  have HLt : Hid (w3.heap.size < g5 ∧ g5 < W7.heap.size ∧ W.heap.size + 1 ≤ w3.heap.size) := Lib.hid ⟨by omega, by omega, hF5.le⟩
  clear hq70
  have ⟨t1, t2, t3, t4, t5, t6, _⟩ := HS7.out W7 (World.grownBy.refl _ _)
  rw [← hW7]
  rw [hsa]
  clear hsa
  clear hs00 hW7 hrb hold hq7 hf7 h7t h5c hrow5r hsc0 hs0 hr hRAt hfrm hsz6 hsz7 hB6 hF5 hB7 hb2 hb3 u0 u1 u2 O5
  generalize hm : r.sets.length = m at *
  have HM : Hid (m = r.sets.length) := Lib.hid hm.symm
  clear hm
  have m1 : (0 : Int) < (m : Int) := by omega
  have m1n : 0 < m := by omega
  have m1d : (m == 0) = false := by simp; omega
  have m1e : m ≠ 0 := by omega
  have i0 : (0 : Int) ≤ (i : Int) := by omega
  have inr : (i : Int) < (nr : Int) := by omega
  have HBd : Hid (Below W7.heap.size W7 W7.drew) := Lib.hid (Below.refl _ _).drew
  have HBa : Hid (Below W7.heap.size W7 (W7.drew.alloc (.cells #[.int .i64 s0.var, .slice s0.va s0.val.length s0.vc] 54))) := Lib.hid ((Below.refl _ _).drew.alloc (Nat.le_refl _) _)
  have HBn := Lib.hid (fun w (hb : Below W7.heap.size W7 w) => hb.alloc hb.size (.cells #[.int .i64 s0.var, .slice s0.va s0.val.length s0.vc] 54))
  go_region_held3 (fun w' => w'.cell? ⟨w3.heap.size, 2, none⟩ = some (.slice (some ⟨g5, 0, none⟩) nr c5) ∧ w'.cell? ⟨w5.heap.size, 0, none⟩ = some (.string r.name) ∧ w'.cell? ⟨w5.heap.size, 1, none⟩ = some (.slice r.ga r.guard.length r.gc) ∧ w'.cell? ⟨w5.heap.size, 2, none⟩ = some (.slice (some ⟨sb, so, none⟩) m r.sc) ∧ w'.cell? ⟨sb, so, none⟩ = some (.int .i64 s0.var) ∧ w'.cell? ⟨sb, so + 1, none⟩ = some (.slice s0.va s0.val.length s0.vc) ∧ W7.grownBy w' (some g5)) (first | exact HS7.out _ (grown_three (grown_below hb15 _)) | exact HS7.out _ (grown_below hb15 _) | exact HS7.out _ (grown_below hb9 _) | exact HS7.out _ (grown_below (HBn.out _ hb9) _) | exact HS7.out _ (grown_below HBd.out _) | exact HS7.out _ (grown_below HBa.out _)) ((first
    | (refine step_copyS setK rfl (.const (.slice none 0 0)) (.tmp 48) rfl W7.heap.size ⟨sb, so, none⟩ r.sc r.sets m HM.out rfl rfl (HSc.out _ (by first | exact (HB7.out.next HBd.out).bel | exact (HB7.out.next HBa.out).bel)) (by omega) (by first | exact HBd.out.size | exact HBa.out.size) ?_; intro a9 c9 w9 O9 hb90; have hb9 := (show Below W7.heap.size W7 w9 from by first | exact HBd.out.trans (hb90.mono HBd.out.size) | exact HBa.out.trans (hb90.mono HBa.out.size)))
    | (refine step_appS setK rfl (.tmp 49) (.tmp 54) rfl W7.heap.size (.slice a9 m c9) r.sets m HM.out (OwnS.far O9 (below_alloc7 _ _)) ⟨w9.heap.size, 0, none⟩ 1 [s0] 1 rfl rfl rfl (set_new (Below.refl _ _)) (by omega) (HBn.out _ hb9).size ?_; intro a15 c15 w15 O15 g15; have hb15 := Below.grown (HBn.out w9 hb9) g15 (HBn.out w9 hb9).size (OwnS.shape_low O9); obtain ⟨y0, y1, y2, y3, y4, y5⟩ := HT7.out w15 hb15)
    | (refine step_appS setK rfl (.tmp 49) (.tmp 54) rfl W7.heap.size (.slice a9 m c9) r.sets m HM.out O9 ⟨W7.heap.size, 0, none⟩ 1 [s0] 1 rfl rfl rfl (set_new (w := W7.drew) hb90) (by omega) hb9.size ?_; intro a15 c15 w15 O15 g15; have hb15 := Below.grown hb9 g15 hb9.size (OwnS.shape_low O9); obtain ⟨y0, y1, y2, y3, y4, y5⟩ := HT7.out w15 hb15)))
  all_goals (
    have hlt := HLt.out
    have hi' : i < p.rules.length := by have := HNr.out; omega
    obtain ⟨qV, hqV⟩ : ∃ qV, qV = p.withRules (some ⟨g5, 0, none⟩) c5 (p.rules.set i (r.twice a15 c15 s0)) := ⟨_, rfl⟩
    obtain ⟨W18, hW18⟩ : ∃ W18, W18 = (((w15.setCell ⟨g5, i * 3, none⟩ (.string r.name)).setCell ⟨g5, i * 3 + 1, none⟩ (.slice r.ga r.guard.length r.gc)).setCell ⟨g5, i * 3 + 2, none⟩ (.slice a15 (m + 1) c15)) := ⟨_, rfl⟩
    have hB18 : Pbox nm va nv vc (some ⟨b, o, none⟩) nr rc W W18 := by
      rw [hW18]
      exact (((HB7.out.next hb15).setOwn (g := g5) (i := i * 3) (by omega) _).setOwn (g := g5) (i := i * 3 + 1) (by omega) _).setOwn (g := g5) (i := i * 3 + 2) (by omega) _
    have hqc := set3_others (g := g5) (i := i) (x := .string r.name) (y := .slice r.ga r.guard.length r.gc) (z := .slice a15 (m + 1) c15) (w := w15)
    rw [← hW18] at hqc
    have hq18 : W18.cell? ⟨w3.heap.size, 0, none⟩ = some (.string nm) ∧ W18.cell? ⟨w3.heap.size, 1, none⟩ = some (.slice va nv vc) ∧ W18.cell? ⟨w3.heap.size, 2, none⟩ = some (.slice (some ⟨g5, 0, none⟩) nr c5) := by
      obtain ⟨z0, z1, z2⟩ := HQ7.out _ hb15
      exact ⟨(hqc _ _ (.inl (by omega))).trans z0, (hqc _ _ (.inl (by omega))).trans z1, (hqc _ _ (.inl (by omega))).trans z2⟩
    have hs18 : W18.heap.size = w15.heap.size := by rw [hW18]; simp only [size_set7]
    have hs15 : W7.heap.size ≤ w15.heap.size := hb15.size
    have hrow18 : RowAt 3 RuleV.cells W18 (some ⟨g5, 0, none⟩) (p.rules.set i (r.twice a15 c15 s0)) := by
      refine row_set3 (w := w5) HRow5.out _ (fun j hj => ?_) (fun off ho => (hqc _ _ (.inr ho)).trans (HG5.out _ hb15 off)) (by omega)
      rw [hW18, set3_new y0 y1 y2 j hj]
      rw [HM.out]
      match j, hj with
      | 0, _ => rfl
      | 1, _ => rfl
      | 2, _ => simp [RuleV.cells, RuleV.twice]
    have hO18 := own_set3 (g := g5) (i := i) (x := .string r.name) (y := .slice r.ga r.guard.length r.gc) (z := .slice a15 (m + 1) c15) O15 (by omega)
    rw [← hW18] at hO18
    have hqAt : qV.At W18 := by
      rw [hqV]
      have hP18 := HP.out.below hB18.bel
      refine ⟨hP18.fits, hP18.vrow, hP18.vcap, hP18.vars, hrow18, by show (p.rules.set i _).length ≤ c5; rw [List.length_set, ← HNr.out]; exact hc5n, fun r' hr' => ?_⟩
      rcases List.mem_or_eq_of_mem_set hr' with h | rfl
      · exact hP18.rules _ h
      · have hr18 := HRAt.out.below hB18.bel
        obtain ⟨a', c', e, hcap, hrw, _⟩ := hO18.shape
        injection e with e1 e2 e3
        subst e1 e3
        refine ⟨hr18.fits, hr18.links, hr18.cap, hrw, hcap, fun s hs => ?_⟩
        have hs' : s ∈ r.sets ++ [s0] := hs
        rcases List.mem_append.1 hs' with h | h
        · exact hr18.sets _ h
        · rw [List.mem_singleton] at h
          subst h
          exact hr18.sets _ (List.mem_iff_getElem?.2 ⟨0, HS0.out⟩)
    have hrF : (rA p.rules i).Few := by rw [rA_eq hi']; exact HF.out.each _ (List.getElem_mem hi')
    rw [← HRr.out] at hrF
    have hqF : qV.Few := by
      rw [hqV]
      refine ⟨HF.out.vars, by show (p.rules.set i _).length ≤ 1000; rw [List.length_set]; exact HF.out.rules, fun r' hr' => ?_⟩
      rcases List.mem_or_eq_of_mem_set hr' with h | rfl
      · exact HF.out.each _ h
      · refine ⟨hrF.1, fun s hs => ?_⟩
        have hs' : s ∈ r.sets ++ [s0] := hs
        rcases List.mem_append.1 hs' with h | h
        · exact hrF.2 _ h
        · rw [List.mem_singleton] at h
          subst h
          exact hrF.2 _ (List.mem_iff_getElem?.2 ⟨0, HS0.out⟩)
    have hqC : checkF qV = 7 := by
      rw [hqV]
      have e0 : 0 < r.sets.length := by have := HM.out; omega
      have e : s0 = r.sets[0] := by have := HS0.out; rw [List.getElem?_eq_getElem e0] at this; exact (Option.some.inj this).symm
      refine refuse_rule HO.out _ _ hi' _ ?_ ?_
      · show r.name = _
        rw [HRr.out, rA_eq hi']
      · rw [e]
        exact formed_twice _ _ e0
    have HQc := Lib.hid (fun w (hb : Below W18.heap.size W18 w) => (by
      have h := checkP_any qV w (hqAt.below hb) hqF
      rw [hqC, hqV] at h
      unfold ProgV.value ProgV.withRules at h
      dsimp only at h
      rw [List.length_set, ← HNr.out, ← HNv.out, ← HNm.out, ← HVa.out, HVc.out] at h
      exact h : Calls Try.prog 16 #[.agg #[.string nm, .slice va nv vc, .slice (some ⟨g5, 0, none⟩) nr c5]] w fun e w' => e = .returned (.int .i64 7) ∧ Below w.heap.size w w'))
    clear hqAt hqF hqC hqV hrow18 hO18 hqc hrF
    have HB18 := Lib.hid hB18
    have hq3l : w3.heap.size < W18.heap.size := by omega
    have HQ18 := Lib.hid (fun w (hb : Below W18.heap.size W18 w) => (⟨(hb.cell (p := ⟨w3.heap.size, 0, none⟩) hq3l).trans hq18.1, (hb.cell (p := ⟨w3.heap.size, 1, none⟩) hq3l).trans hq18.2.1, (hb.cell (p := ⟨w3.heap.size, 2, none⟩) hq3l).trans hq18.2.2⟩ : w.cell? ⟨w3.heap.size, 0, none⟩ = some (.string nm) ∧ w.cell? ⟨w3.heap.size, 1, none⟩ = some (.slice va nv vc) ∧ w.cell? ⟨w3.heap.size, 2, none⟩ = some (.slice (some ⟨g5, 0, none⟩) nr c5)))
    have k0 := hB18.c0
    have k1 := hB18.c1
    have k2 := hB18.c2
    rw [← hW18]
    clear hW18 hs18 hs15 hb15 O15 g15 y0 y1 y2 y3 y4 y5 t1 t2 t3 t4 t5 t6 O9 hb9 hb90 hB18 hq18 HS7 HT7 HBd HBa HBn HQ7 HG5
    clear hlt hq3l
    obtain ⟨vb, vo, hva2, hvc2⟩ := HRv.out
    obtain ⟨v0, hv0⟩ : ∃ v0, v0 = vA p.vars 0 := ⟨_, rfl⟩
    have HV0 := Lib.hid hv0
    have hvn : 0 < p.vars.length := by have := HO.out.lim; omega
    have HV1 : Hid (∀ w, Below W.heap.size W w → w.cell? ⟨vb, vo, none⟩ = some (.string v0.name) ∧ w.cell? ⟨vb, vo + 1, none⟩ = some (.int .i64 v0.kind) ∧ w.cell? ⟨vb, vo + 2, none⟩ = some (.int .i64 v0.lo) ∧ w.cell? ⟨vb, vo + 3, none⟩ = some (.int .i64 v0.hi) ∧ w.cell? ⟨vb, vo + 4, none⟩ = some (.int .i64 v0.pn) ∧ w.cell? ⟨vb, vo + 5, none⟩ = some (.int .i64 v0.pid)) := Lib.hid (fun w hb => by
      have h := hvc2 w hb 0 hvn
      rw [← hv0] at h
      simpa using h)
    have hva3 : va = some ⟨vb, vo, none⟩ := by rw [HVa.out]; exact hva2
    have HVe : Hid (∀ w, Below W.heap.size W w → ∀ j u, (flatS varK p.vars)[j]? = some u → w.cell? ((⟨vb, vo, none⟩ : Addr).add j) = some u) := Lib.hid (fun w hb => row_cells (R := varK) (by have h := HP.out.vrow.below hb; rw [hva2] at h; exact h))
    have hvbl : vb < W.heap.size := by
      obtain ⟨b', o', e, hl, _⟩ := HP.out.vrow.row hvn
      rw [hva2] at e
      injection e with e
      injection e with e1 e2
      omega
    have hW18s : W.heap.size + 1 ≤ W18.heap.size := pbox_size HB18.out
    subst hva3
    have nv1 : (0 : Int) < (nv : Int) := by have := HNv.out; omega
    have nv1n : 0 < nv := by have := HNv.out; omega
    have nv1e : nv ≠ 0 := by omega
    have HW19 := HB18.out.next (below_alloc7 W18 (.cells #[.string nm, .slice (some ⟨vb, vo, none⟩) nv vc, .slice (some ⟨b, o, none⟩) nr rc] 33))
    clear hva2 hvc2 hv0 hvn
    go_wp2
    obtain ⟨W19, hW19⟩ : ∃ W19, W19 = W18.alloc (.cells #[.string nm, .slice (some ⟨vb, vo, none⟩) nv vc, .slice (some ⟨b, o, none⟩) nr rc] 33) := ⟨_, rfl⟩
    have hsb : ∀ j, W19.cell? ⟨W18.heap.size, j, none⟩ = (#[Value.string nm, .slice (some ⟨vb, vo, none⟩) nv vc, .slice (some ⟨b, o, none⟩) nr rc] : Array Value)[j]? := fun j => by rw [hW19]; exact World.cell?_alloc_new _ _ _ j
    have hsf : W19.frozen? ⟨W18.heap.size, 1, none⟩ = false := by rw [hW19]; exact World.frozen?_alloc_new _ _ _ 1
    have hs19 : W18.heap.size < W19.heap.size := by rw [hW19, World.size_alloc]; omega
    have hb19 : Below W18.heap.size W18 W19 := by rw [hW19]; exact below_alloc7 _ _
    rw [← hW19] at HW19 ⊢
    have HS9 := Lib.hid (fun w (hg : W19.grownBy w (some W18.heap.size)) => (⟨hg.cell HW19.c1 (by intro e; injection e with e; dsimp only at e; omega), hg.cell (HV1.out W19 HW19.bel).1 (by intro e; injection e with e; dsimp only at e; omega), hg.cell (HV1.out W19 HW19.bel).2.1 (by intro e; injection e with e; dsimp only at e; omega), hg.cell (HV1.out W19 HW19.bel).2.2.1 (by intro e; injection e with e; dsimp only at e; omega), hg.cell (HV1.out W19 HW19.bel).2.2.2.1 (by intro e; injection e with e; dsimp only at e; omega), hg.cell (HV1.out W19 HW19.bel).2.2.2.2.1 (by intro e; injection e with e; dsimp only at e; omega), hg.cell (HV1.out W19 HW19.bel).2.2.2.2.2 (by intro e; injection e with e; dsimp only at e; omega), hg⟩ : w.cell? ⟨W.heap.size, 1, none⟩ = some (.slice (some ⟨vb, vo, none⟩) nv vc) ∧ w.cell? ⟨vb, vo, none⟩ = some (.string v0.name) ∧ w.cell? ⟨vb, vo + 1, none⟩ = some (.int .i64 v0.kind) ∧ w.cell? ⟨vb, vo + 2, none⟩ = some (.int .i64 v0.lo) ∧ w.cell? ⟨vb, vo + 3, none⟩ = some (.int .i64 v0.hi) ∧ w.cell? ⟨vb, vo + 4, none⟩ = some (.int .i64 v0.pn) ∧ w.cell? ⟨vb, vo + 5, none⟩ = some (.int .i64 v0.pid) ∧ W19.grownBy w (some W18.heap.size)))
    have HT9 := Lib.hid (fun w (hb : Below W19.heap.size W19 w) => (⟨(hb.cell (p := ⟨W18.heap.size, 1, none⟩) hs19).trans (hsb 1), (hb.frozen (p := ⟨W18.heap.size, 1, none⟩) hs19).trans hsf⟩ : w.cell? ⟨W18.heap.size, 1, none⟩ = some (.slice (some ⟨vb, vo, none⟩) nv vc) ∧ w.frozen? ⟨W18.heap.size, 1, none⟩ = false))
    have ⟨x1, x2, x3, x4, x5, x6, x7, _⟩ := HS9.out W19 (World.grownBy.refl _ _)
    have HBd : Hid (Below W19.heap.size W19 W19.drew) := Lib.hid (Below.refl _ _).drew
    have HBa : Hid (Below W19.heap.size W19 (W19.drew.alloc (.cells #[.string v0.name, .int .i64 v0.kind, .int .i64 v0.lo, .int .i64 v0.hi, .int .i64 v0.pn, .int .i64 v0.pid] 56))) := Lib.hid ((Below.refl _ _).drew.alloc (Nat.le_refl _) _)
    have HBn := Lib.hid (fun w (hb : Below W19.heap.size W19 w) => hb.alloc hb.size (.cells #[.string v0.name, .int .i64 v0.kind, .int .i64 v0.lo, .int .i64 v0.hi, .int .i64 v0.pn, .int .i64 v0.pid] 56))
    have HB19 := Lib.hid HW19
    have Hb19 := Lib.hid hb19
    have Hs19 := Lib.hid hs19
    have Hsb := Lib.hid hsb
    clear hW19 hsb hsf hs19 hb19 HW19 k0 k1 k2
    go_region_held3 (fun w' => w'.cell? ⟨W.heap.size, 1, none⟩ = some (.slice (some ⟨vb, vo, none⟩) nv vc) ∧ w'.cell? ⟨vb, vo, none⟩ = some (.string v0.name) ∧ w'.cell? ⟨vb, vo + 1, none⟩ = some (.int .i64 v0.kind) ∧ w'.cell? ⟨vb, vo + 2, none⟩ = some (.int .i64 v0.lo) ∧ w'.cell? ⟨vb, vo + 3, none⟩ = some (.int .i64 v0.hi) ∧ w'.cell? ⟨vb, vo + 4, none⟩ = some (.int .i64 v0.pn) ∧ w'.cell? ⟨vb, vo + 5, none⟩ = some (.int .i64 v0.pid) ∧ W19.grownBy w' (some W18.heap.size)) (first | exact HS9.out _ ((grown_below hb15 _).trans (grown_set7 _ _ _ _)) | exact HS9.out _ (grown_below hb15 _) | exact HS9.out _ (grown_below hb9 _) | exact HS9.out _ (grown_below (HBn.out _ hb9) _) | exact HS9.out _ (grown_below HBd.out _) | exact HS9.out _ (grown_below HBa.out _)) ((first
      | (refine step_copyS varK rfl (.const (.slice none 0 0)) (.tmp 60) rfl W19.heap.size ⟨vb, vo, none⟩ vc p.vars nv HNv.out rfl rfl (HVe.out _ (by first | exact (HB19.out.next HBd.out).bel | exact (HB19.out.next HBa.out).bel)) (by have := HO.out.lim; have := HNv.out; omega) (by first | exact HBd.out.size | exact HBa.out.size) ?_; intro a9 c9 w9 O9 hb90; have hb9 := (show Below W19.heap.size W19 w9 from by first | exact HBd.out.trans (hb90.mono HBd.out.size) | exact HBa.out.trans (hb90.mono HBa.out.size)))
      | (refine step_appS varK rfl (.tmp 61) (.tmp 66) rfl W19.heap.size (.slice a9 nv c9) p.vars nv HNv.out (OwnS.far O9 (below_alloc7 _ _)) ⟨w9.heap.size, 0, none⟩ 1 [v0] 1 rfl rfl rfl (var_new (Below.refl _ _)) (by have := HO.out.lim; have := HNv.out; omega) (HBn.out _ hb9).size ?_; intro a15 c15 w15 O15 g15; have hb15 := Below.grown (HBn.out w9 hb9) g15 (HBn.out w9 hb9).size (OwnS.shape_low O9); obtain ⟨y0, y1⟩ := HT9.out w15 hb15)
      | (refine step_appS varK rfl (.tmp 61) (.tmp 66) rfl W19.heap.size (.slice a9 nv c9) p.vars nv HNv.out O9 ⟨W19.heap.size, 0, none⟩ 1 [v0] 1 rfl rfl rfl (var_new (w := W19.drew) hb90) (by have := HO.out.lim; have := HNv.out; omega) hb9.size ?_; intro a15 c15 w15 O15 g15; have hb15 := Below.grown hb9 g15 hb9.size (OwnS.shape_low O9); obtain ⟨y0, y1⟩ := HT9.out w15 hb15)))
    all_goals (
      obtain ⟨sV, hsV⟩ : ∃ sV, sV = p.withVars a15 c15 (p.vars ++ [v0]) := ⟨_, rfl⟩
      obtain ⟨W27, hW27⟩ : ∃ W27, W27 = w15.setCell ⟨W18.heap.size, 1, none⟩ (.slice a15 (nv + 1) c15) := ⟨_, rfl⟩
      have hs27 : W27.heap.size = w15.heap.size := by rw [hW27, size_set7]
      have hs15 := hb15.size
      have hB27 : Pbox nm (some ⟨vb, vo, none⟩) nv vc (some ⟨b, o, none⟩) nr rc W W27 := by
        rw [hW27]
        exact (HB19.out.next hb15).setOwn (g := W18.heap.size) (i := 1) hW18s _
      have hb27 : Below W18.heap.size W18 W27 := by
        rw [hW27]
        exact (Hb19.out.trans (hb15.mono (Nat.le_of_lt Hs19.out))).setCell (p := ⟨W18.heap.size, 1, none⟩) (Nat.le_refl _) _
      have hO27 : OwnS varK W19.heap.size W27 (.slice a15 (nv + 1) c15) (p.vars ++ [v0]) := by
        rw [hW27]
        exact own_set1 O15 Hs19.out
      have hs27c : W27.cell? ⟨W18.heap.size, 0, none⟩ = some (.string nm) ∧ W27.cell? ⟨W18.heap.size, 1, none⟩ = some (.slice a15 (nv + 1) c15) ∧ W27.cell? ⟨W18.heap.size, 2, none⟩ = some (.slice (some ⟨b, o, none⟩) nr rc) := by
        rw [hW27]
        exact ⟨(set_other (by simp)).trans ((hb15.cell (p := ⟨W18.heap.size, 0, none⟩) Hs19.out).trans (Hsb.out 0)), set_same y0, (set_other (by simp)).trans ((hb15.cell (p := ⟨W18.heap.size, 2, none⟩) Hs19.out).trans (Hsb.out 2))⟩
      have hvn : 0 < p.vars.length := by have := HNv.out; omega
      have hv0 : v0 = p.vars[0] := by rw [HV0.out, vA_eq hvn]
      have hsAt : sV.At W27 := by
        rw [hsV]
        have hP27 := HP.out.below hB27.bel
        obtain ⟨a', c', e, hcap, hrw, _⟩ := hO27.shape
        injection e with e1 e2 e3
        subst e1 e3
        refine ⟨hP27.fits, hrw, hcap, fun v hv => ?_, hP27.rrow, hP27.rcap, hP27.rules⟩
        have hv' : v ∈ p.vars ++ [v0] := hv
        rcases List.mem_append.1 hv' with h | h
        · exact hP27.vars _ h
        · rw [List.mem_singleton] at h
          subst h
          rw [hv0]
          exact hP27.vars _ (List.getElem_mem hvn)
      have hsF : sV.Few := by
        rw [hsV]
        refine ⟨?_, HF.out.rules, HF.out.each⟩
        show (p.vars ++ [v0]).length ≤ 1000
        have := HO.out.lim
        rw [List.length_append]
        simp
        omega
      have hsC : checkF sV = if nv = 6 then 3 else 5 := by
        rw [hsV, hv0, refuse_vars HO.out a15 c15 hvn, ← HNv.out]
      have HQv := Lib.hid (fun w (hb : Below W27.heap.size W27 w) => HQc.out w (hb27.trans (hb.mono hb27.size)))
      have HSv := Lib.hid (fun w (hb : Below W27.heap.size W27 w) => (by
        have h := checkP_any sV w (hsAt.below hb) hsF
        rw [hsC, hsV] at h
        unfold ProgV.value ProgV.withVars at h
        dsimp only at h
        rw [List.length_append, ← HNr.out, ← HNv.out, ← HNm.out, HRA'.out, HRcc.out] at h
        exact h : Calls Try.prog 16 #[.agg #[.string nm, .slice a15 (nv + 1) c15, .slice (some ⟨b, o, none⟩) nr rc]] w fun e w' => e = .returned (.int .i64 (if nv = 6 then 3 else 5)) ∧ Below w.heap.size w w'))
      have HB27 := Lib.hid hB27
      have HQ27 := Lib.hid (fun w (hb : Below W27.heap.size W27 w) => HQ18.out w (hb27.trans (hb.mono hb27.size)))
      have hs27l : W18.heap.size < W27.heap.size := by have := Hs19.out; omega
      have HS27 := Lib.hid (fun w (hb : Below W27.heap.size W27 w) => (⟨(hb.cell (p := ⟨W18.heap.size, 0, none⟩) hs27l).trans hs27c.1, (hb.cell (p := ⟨W18.heap.size, 1, none⟩) hs27l).trans hs27c.2.1, (hb.cell (p := ⟨W18.heap.size, 2, none⟩) hs27l).trans hs27c.2.2⟩ : w.cell? ⟨W18.heap.size, 0, none⟩ = some (.string nm) ∧ w.cell? ⟨W18.heap.size, 1, none⟩ = some (.slice a15 (nv + 1) c15) ∧ w.cell? ⟨W18.heap.size, 2, none⟩ = some (.slice (some ⟨b, o, none⟩) nr rc)))
      have g1 := hB27.c1
      rw [← hW27]
      clear hW27 hs27 hs15 hB27 hb27 hO27 hs27c hvn hv0 hsAt hsF hsC hsV hs27l hb15 O15 g15 O9 hb9 hb90 y0 y1 x1 x2 x3 x4 x5 x6 x7 HS9 HT9 HBd HBa HBn
      by_cases h6 : nv = 6
      · rw [if_pos h6] at HSv
        subst h6
        go_wp2_with (first
        | (go_at_call 12; refine (HA.out _).mono ?_; rintro e w28 ⟨rfl, hb28⟩; have hB28 := HB27.out.next hb28; obtain ⟨e0, e1, e2⟩ := HQ27.out _ hb28; obtain ⟨d0, d1, d2⟩ := HS27.out _ hb28)
        | (go_at_call 16; first
            | ((with_reducible refine (HSv.out _ hb30).mono ?_); rintro e w31 ⟨rfl, hb31⟩; have hB31 := hB30.next hb31)
            | ((with_reducible refine (HQv.out _ hb28).mono ?_); rintro e w30 ⟨rfl, hb30'⟩; have hB30 := hB28.next hb30'; have hb30 := hb28.trans (hb30'.mono hb28.size); obtain ⟨d0, d1, d2⟩ := HS27.out _ hb30)))
        go_ret
        exact ⟨rfl, hB31.bel⟩
      · rw [if_neg h6] at HSv
        have h6d : ((nv : Int) == 6) = false := by simp; omega
        clear h6
        go_wp2_with (first
        | (go_at_call 12; refine (HA.out _).mono ?_; rintro e w28 ⟨rfl, hb28⟩; have hB28 := HB27.out.next hb28; obtain ⟨e0, e1, e2⟩ := HQ27.out _ hb28; obtain ⟨d0, d1, d2⟩ := HS27.out _ hb28)
        | (go_at_call 16; first
            | ((with_reducible refine (HSv.out _ hb30).mono ?_); rintro e w31 ⟨rfl, hb31⟩; have hB31 := hB30.next hb31)
            | ((with_reducible refine (HQv.out _ hb28).mono ?_); rintro e w30 ⟨rfl, hb30'⟩; have hB30 := hB28.next hb30'; have hb30 := hb28.trans (hb30'.mono hb28.size); obtain ⟨d0, d1, d2⟩ := HS27.out _ hb30)))
        go_ret
        exact ⟨rfl, hB31.bel⟩))
end Go.Proofs.Ytckofngclgkajaa
