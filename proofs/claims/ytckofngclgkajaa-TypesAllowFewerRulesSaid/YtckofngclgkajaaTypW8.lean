/- The walk of TypesAllowFewerRules. -/
import Derived.Test.YtckofngclgkajaaTypW7
import Derived.BigRegion
import Derived.IntWalk
namespace Go.Proofs.Ytckofngclgkajaa
set_option maxRecDepth 100000
open Go.RowKit Go.Maps

theorem cut_key {Q : Prop} {P : Nat → Nat → World → Prop} (F : Nat → Nat → World → Prop) (k : (∀ a b c, F a b c → P a b c) → Q) (h : ∀ a b c, F a b c → P a b c) : Q := k h
theorem own_ne3 {α : Type} {R : SKind α} {B : Nat} {w : World} {v : Value} {ss : List α} {g i : Nat} {x y z : Value} (h : OwnS R B w v ss) (hg : ∀ k, v.ownBlock = some k → k ≠ g) : OwnS R B (((w.setCell ⟨g, i * 3, none⟩ x).setCell ⟨g, i * 3 + 1, none⟩ y).setCell ⟨g, i * 3 + 2, none⟩ z) v ss :=
  World.ownsRow.kept h (row := some g) (grown_three (World.grownBy.refl _ _)) (by
    cases hv : v.ownBlock with
    | none => exact .inl rfl
    | some k => exact .inr fun e => hg k hv (by injection e))
theorem two_boxes {s : ByteArray} {va ra : Option Addr} {n vc m rc : Nat} {w w3 : World} (h3 : Pbox s va n vc ra m rc w w3) :
    Pbox s va n vc ra m rc w ((w3.alloc (.cells #[.string s, .slice va n vc, .slice ra m rc] 33)).alloc (.cells #[.string s, .slice va n vc, .slice ra m rc] 33)).drew.drew ∧ (∀ j, ((w3.alloc (.cells #[.string s, .slice va n vc, .slice ra m rc] 33)).alloc (.cells #[.string s, .slice va n vc, .slice ra m rc] 33)).drew.drew.cell? ⟨w3.heap.size, j, none⟩ = (#[Value.string s, .slice va n vc, .slice ra m rc] : Array Value)[j]?) ∧ (∀ j, ((w3.alloc (.cells #[.string s, .slice va n vc, .slice ra m rc] 33)).alloc (.cells #[.string s, .slice va n vc, .slice ra m rc] 33)).drew.drew.cell? ⟨w3.heap.size + 1, j, none⟩ = (#[Value.string s, .slice va n vc, .slice ra m rc] : Array Value)[j]?) ∧
    (∀ j, ((w3.alloc (.cells #[.string s, .slice va n vc, .slice ra m rc] 33)).alloc (.cells #[.string s, .slice va n vc, .slice ra m rc] 33)).drew.drew.frozen? ⟨w3.heap.size, j, none⟩ = false) ∧ (∀ j, ((w3.alloc (.cells #[.string s, .slice va n vc, .slice ra m rc] 33)).alloc (.cells #[.string s, .slice va n vc, .slice ra m rc] 33)).drew.drew.frozen? ⟨w3.heap.size + 1, j, none⟩ = false) ∧ ((w3.alloc (.cells #[.string s, .slice va n vc, .slice ra m rc] 33)).alloc (.cells #[.string s, .slice va n vc, .slice ra m rc] 33)).drew.drew.heap.size = w3.heap.size + 2 := by
  have e : (w3.alloc (.cells #[.string s, .slice va n vc, .slice ra m rc] 33)).heap.size = w3.heap.size + 1 := by simp
  have hb := below_alloc7 (w3.alloc (.cells #[.string s, .slice va n vc, .slice ra m rc] 33)) (.cells #[.string s, .slice va n vc, .slice ra m rc] 33)
  refine ⟨(((h3.next (below_alloc7 _ _)).next (below_alloc7 _ _)).drew 1).drew 1, fun j => ?_, fun j => ?_, fun j => ?_, fun j => ?_, by simp⟩
  · exact (hb.cell (p := ⟨w3.heap.size, j, none⟩) (by rw [e]; exact Nat.lt_succ_self _)).trans (World.cell?_alloc_new w3 _ _ j)
  · have h := World.cell?_alloc_new (w3.alloc (.cells #[.string s, .slice va n vc, .slice ra m rc] 33)) #[Value.string s, .slice va n vc, .slice ra m rc] 33 j
    rw [e] at h
    exact h
  · exact (hb.frozen (p := ⟨w3.heap.size, j, none⟩) (by rw [e]; exact Nat.lt_succ_self _)).trans (World.frozen?_alloc_new w3 _ _ j)
  · have h := World.frozen?_alloc_new (w3.alloc (.cells #[.string s, .slice va n vc, .slice ra m rc] 33)) #[Value.string s, .slice va n vc, .slice ra m rc] 33 j
    rw [e] at h
    exact h
set_option maxHeartbeats 16000000 in
theorem typesFewer_walk (W : World) (p : ProgV) (hP : p.At W) (k1 k2 : Int) (hk1 : I64 k1) (hk2 : I64 k2) :
    Calls Try.prog 9 #[p.value, .int .i64 k1, .int .i64 k2] W fun e W' => e = .returned (.bool true) ∧ Below W.heap.size W W' := by
  have HA := Lib.hid (fun w => awake7_any w)
  have HL := Lib.hid (fun w (h : Below W.heap.size W w) => lightP_two p w (hP.below h))
  have HU := Lib.hid (fun (hf : p.Few) w (h : Below W.heap.size W w) => validR7_any p w (hP.below h) hf)
  by_cases hfew : p.Few
  case neg =>
    have hst : Pbox p.name p.va p.vars.length p.vc p.ra p.rules.length p.rc W (W.alloc (.cells #[.string p.name, .slice p.va p.vars.length p.vc, .slice p.ra p.rules.length p.rc] 33)) := Below.refl _ _
    have HSt := Lib.hid hst
    clear hP hst HU
    generalize p.Few = PF at *
    unfold ProgV.value at *
    obtain ⟨nm, va, vc, vars, ra, rc, rules⟩ := p
    dsimp only at *
    generalize vars.length = nv at *
    generalize rules.length = nr at *
    have p0c := HSt.out.c0
    have p1c := HSt.out.c1
    have p2c := HSt.out.c2
    go_enter Try.func9, Try.ntmps9
    go_wp2_with (first | (go_at_call 15; refine ((HL.out _ HSt.out.bel).mono (R' := fun e w' => e = .returned (.bool false) ∧ Below (W.alloc (.cells #[.string nm, .slice va nv vc, .slice ra nr rc] 33)).heap.size (W.alloc (.cells #[.string nm, .slice va nv vc, .slice ra nr rc] 33)) w') (fun e w' h => ⟨h.1.elim id (fun h => absurd h.2 hfew), h.2⟩)).mono ?_; rintro e w2 ⟨rfl, hb2⟩; have hB2 := HSt.out.next hb2) | (go_at_call 12; refine (HA.out _).mono ?_; rintro e wa ⟨rfl, hba⟩; have hBa := hB2.next hba))
    go_ret
    exact ⟨rfl, hBa.bel⟩
  have HU2 := Lib.hid (HU.out hfew)
  have HL2 := Lib.hid (fun w (h : Below W.heap.size W w) => (HL.out w h).mono (R' := fun e w' => (e = .returned (.bool false) ∨ e = .returned (.bool true)) ∧ Below w.heap.size w w') (fun e w' h => ⟨h.1.elim .inl (fun h => .inr h.1), h.2⟩))
  clear HU HL
  by_cases hok : checkF p = 0
  case neg =>
    rw [decide_eq_false hok] at HU2
    have hst : Pbox p.name p.va p.vars.length p.vc p.ra p.rules.length p.rc W (W.alloc (.cells #[.string p.name, .slice p.va p.vars.length p.vc, .slice p.ra p.rules.length p.rc] 33)) := Below.refl _ _
    have HSt := Lib.hid hst
    clear hP hst hok hfew
    unfold ProgV.value at *
    obtain ⟨nm, va, vc, vars, ra, rc, rules⟩ := p
    dsimp only at *
    generalize vars.length = nv at *
    generalize rules.length = nr at *
    have p0c := HSt.out.c0
    have p1c := HSt.out.c1
    have p2c := HSt.out.c2
    go_enter Try.func9, Try.ntmps9
    go_wp2_with (first | (go_at_call 15; refine (HL2.out _ HSt.out.bel).mono ?_; rintro e w2 ⟨(rfl | rfl), hb2⟩ <;> (have hB2 := HSt.out.next hb2; have q0 := hB2.c0; have q1 := hB2.c1; have q2 := hB2.c2)) | (go_at_call 19; refine (HU2.out _ hB2.bel).mono ?_; rintro e w3 ⟨rfl, hb3⟩; have hB3 := hB2.next hb3; have r0 := hB3.c0; have r1 := hB3.c1; have r2 := hB3.c2) | (go_at_call 12; refine (HA.out _).mono ?_; rintro e wa ⟨rfl, hba⟩; have hBa := (show Pbox _ _ _ _ _ _ _ W wa from by first | exact hB3.next hba | exact hB2.next hba)))
    all_goals go_ret
    all_goals exact ⟨rfl, hBa.bel⟩
  rw [decide_eq_true hok] at HU2
  have hOk := ok_iff.1 hok
  by_cases hnr : p.rules.length = 0
  · have hst : Pbox p.name p.va p.vars.length p.vc p.ra p.rules.length p.rc W (W.alloc (.cells #[.string p.name, .slice p.va p.vars.length p.vc, .slice p.ra p.rules.length p.rc] 33)) := Below.refl _ _
    have HSt := Lib.hid hst
    clear hP hst hok hfew hOk
    unfold ProgV.value at *
    obtain ⟨nm, va, vc, vars, ra, rc, rules⟩ := p
    dsimp only at *
    generalize vars.length = nv at *
    generalize rules.length = nr at *
    subst hnr
    have p0c := HSt.out.c0
    have p1c := HSt.out.c1
    have p2c := HSt.out.c2
    go_enter Try.func9, Try.ntmps9
    go_wp2_with (first | (go_at_call 15; refine (HL2.out _ HSt.out.bel).mono ?_; rintro e w2 ⟨(rfl | rfl), hb2⟩ <;> (have hB2 := HSt.out.next hb2; have q0 := hB2.c0; have q1 := hB2.c1; have q2 := hB2.c2)) | (go_at_call 19; refine (HU2.out _ hB2.bel).mono ?_; rintro e w3 ⟨rfl, hb3⟩; have hB3 := hB2.next hb3; have r0 := hB3.c0; have r1 := hB3.c1; have r2 := hB3.c2) | (go_at_call 12; refine (HA.out _).mono ?_; rintro e wa ⟨rfl, hba⟩; have hBa := (show Pbox _ _ _ _ _ _ _ W wa from by first | exact hB3.next hba | exact hB2.next hba)))
    all_goals go_ret
    all_goals exact ⟨rfl, hBa.bel⟩
  have hMod := Lib.hid (fun w => mod_any k1 p.rules.length w hk1 (by omega) (by have := hfew.rules; omega))
  obtain ⟨i, hmi, hin⟩ := mod_nat k1 (n := p.rules.length) (by omega)
  rw [hmi] at hMod
  have hMod2 := Lib.hid (fun w => mod_any k2 p.rules.length w hk2 (by omega) (by have := hfew.rules; omega))
  obtain ⟨k, hmk, hkn⟩ := mod_nat k2 (n := p.rules.length) (by omega)
  rw [hmk] at hMod2
  have hrcap := hP.rcap
  have hst : Pbox p.name p.va p.vars.length p.vc p.ra p.rules.length p.rc W (W.alloc (.cells #[.string p.name, .slice p.va p.vars.length p.vc, .slice p.ra p.rules.length p.rc] 33)) := Below.refl _ _
  have HSt := Lib.hid hst
  have HP := Lib.hid hP
  have HF := Lib.hid hfew
  have HO := Lib.hid hOk
  have HRr := Lib.hid (row_rule hP.rrow (by omega))
  have HRv := Lib.hid (row_var hP.vrow (by have := hOk.lim; omega))
  clear hst hok hk1 hk2 hmi hmk
  obtain ⟨b, o, hra, hrc⟩ := HRr.out
  have HRc := Lib.hid hrc
  have HRA := Lib.hid hra
  have HRA' := Lib.hid hra
  clear hrc HRr
  have HPV := Lib.hid (rfl : p.value = .agg #[.string p.name, .slice p.va p.vars.length p.vc, .slice p.ra p.rules.length p.rc])
  unfold ProgV.value at HL2 HU2 ⊢
  have hnr12 := hOk.lim.2.2
  obtain ⟨nr, hnrr⟩ : ∃ nr, nr = p.rules.length := ⟨_, rfl⟩
  obtain ⟨nv, hnvv⟩ : ∃ nv, nv = p.vars.length := ⟨_, rfl⟩
  have HNr := Lib.hid hnrr
  have HNv := Lib.hid hnvv
  obtain ⟨nm, hnm⟩ : ∃ nm, nm = p.name := ⟨_, rfl⟩
  have HNm := Lib.hid hnm
  obtain ⟨va, hva⟩ : ∃ va, va = p.va := ⟨_, rfl⟩
  have HVa := Lib.hid hva
  rw [hra]
  rw [hra] at HSt HL2 HU2
  rw [← hnrr] at hnr hin hkn hnr12 hMod hMod2 hrcap HRc HSt HL2 HU2 ⊢
  rw [← hnvv] at HSt HL2 HU2 ⊢
  rw [← hnm] at HSt HL2 HU2 ⊢
  rw [← hva] at HSt HL2 HU2 ⊢
  generalize hvc : p.vc = vc at HSt HL2 HU2 ⊢
  have HVc := Lib.hid hvc
  generalize hrc2 : p.rc = rc at hrcap HSt HL2 HU2 ⊢
  have HRcc := Lib.hid hrc2
  clear hP hfew hOk hra hnrr hnvv hnm hva hvc hrc2
  have HCe : Hid (∀ w, Below W.heap.size W w → ∀ j u, (flatS ruleK p.rules)[j]? = some u → w.cell? ((⟨b, o, none⟩ : Addr).add j) = some u) := Lib.hid (fun w hb => row_cells (R := ruleK) (by have h := HP.out.rrow.below hb; rw [HRA.out] at h; exact h))
  have nr0 : ((nr : Int) == 0) = false := by simp; omega
  have p0c := HSt.out.c0
  have p1c := HSt.out.c1
  have p2c := HSt.out.c2
  go_enter Try.func9, Try.ntmps9
  go_wp2_with (first | (go_at_call 15; refine (HL2.out _ HSt.out.bel).mono ?_; rintro e w2 ⟨(rfl | rfl), hb2⟩ <;> (have hB2 := HSt.out.next hb2; have q0 := hB2.c0; have q1 := hB2.c1; have q2 := hB2.c2)) | (go_at_call 19; refine (HU2.out _ hB2.bel).mono ?_; rintro e w3 ⟨rfl, hb3⟩; have hB3 := hB2.next hb3; have r0 := hB3.c0; have r1 := hB3.c1; have r2 := hB3.c2) | (go_at_call 12; refine (HA.out _).mono ?_; rintro e wa ⟨rfl, hba⟩; have hBa := hB2.next hba))
  · go_ret
    exact ⟨rfl, hBa.bel⟩
  clear q0 q1 q2 p0c p1c p2c nr0
  go_region_held3 (fun w' => w'.cell? ⟨W.heap.size, 2, none⟩ = some (.slice (some ⟨b, o, none⟩) nr rc) ∧ Below w3.heap.size w3 w') (first | exact ⟨r2, (Below.refl _ _).drew⟩ | exact ⟨r2, Below.refl _ _⟩) ((go_at_call 24; first
    | ((with_reducible refine (hMod.out _).mono ?_); rintro e w4 ⟨rfl, hw4⟩; subst hw4)
    | ((with_reducible refine (hMod2.out _).mono ?_); rintro e w4 ⟨rfl, hw4⟩; subst hw4)))
  have o1 : ∀ O, (w3.alloc O).cell? ⟨W.heap.size, 0, none⟩ = some (.string nm) ∧ (w3.alloc O).cell? ⟨W.heap.size, 1, none⟩ = some (.slice va nv vc) ∧ (w3.alloc O).cell? ⟨W.heap.size, 2, none⟩ = some (.slice (some ⟨b, o, none⟩) nr rc) := fun O => ⟨(hB3.next (below_alloc7 w3 O)).c0, (hB3.next (below_alloc7 w3 O)).c1, (hB3.next (below_alloc7 w3 O)).c2⟩
  have o2 : ∀ O O', ((w3.alloc O).alloc O').cell? ⟨W.heap.size, 0, none⟩ = some (.string nm) ∧ ((w3.alloc O).alloc O').cell? ⟨W.heap.size, 1, none⟩ = some (.slice va nv vc) ∧ ((w3.alloc O).alloc O').cell? ⟨W.heap.size, 2, none⟩ = some (.slice (some ⟨b, o, none⟩) nr rc) := fun O O' => ⟨((hB3.next (below_alloc7 w3 O)).next (below_alloc7 _ O')).c0, ((hB3.next (below_alloc7 w3 O)).next (below_alloc7 _ O')).c1, ((hB3.next (below_alloc7 w3 O)).next (below_alloc7 _ O')).c2⟩
  have o10 := fun O => (o1 O).1
  have o11 := fun O => (o1 O).2.1
  have o12 := fun O => (o1 O).2.2
  have o20 := fun O O' => (o2 O O').1
  have o21 := fun O O' => (o2 O O').2.1
  have o22 := fun O O' => (o2 O O').2.2
  clear o1 o2
  apply cut_key (fun qb sb W4 => Pbox nm va nv vc (some ⟨b, o, none⟩) nr rc W W4 ∧ (∀ j, W4.cell? ⟨qb, j, none⟩ = (#[Value.string nm, .slice va nv vc, .slice (some ⟨b, o, none⟩) nr rc] : Array Value)[j]?) ∧ (∀ j, W4.cell? ⟨sb, j, none⟩ = (#[Value.string nm, .slice va nv vc, .slice (some ⟨b, o, none⟩) nr rc] : Array Value)[j]?) ∧ W4.frozen? ⟨qb, 2, none⟩ = false ∧ W4.frozen? ⟨sb, 2, none⟩ = false ∧ (qb ≠ sb ∧ W.heap.size + 1 ≤ qb ∧ W.heap.size + 1 ≤ sb ∧ qb < W4.heap.size ∧ sb < W4.heap.size))
  · intro key
    all_goals (go_wp2)
    all_goals go_region
    · rename_i K hK
      obtain ⟨qb, hqb⟩ : ∃ qb, qb = w3.heap.size := ⟨_, rfl⟩
      obtain ⟨sb, hsb⟩ : ∃ sb, sb = w3.heap.size + 1 := ⟨_, rfl⟩
      obtain ⟨W4, hW4⟩ : ∃ W4, W4 = ((w3.alloc (.cells #[.string nm, .slice va nv vc, .slice (some ⟨b, o, none⟩) nr rc] 33)).alloc (.cells #[.string nm, .slice va nv vc, .slice (some ⟨b, o, none⟩) nr rc] 33)).drew.drew := ⟨_, rfl⟩
      have hT := two_boxes hB3
      rw [← hW4] at hT
      obtain ⟨HB4, T1, T2, T3, T4, T5⟩ := hT
      rw [← hsb, ← hqb]
      rw [← hW4]
      refine hK _ _ ?_
      clear hK
      refine key qb sb W4 ⟨HB4, fun j => by rw [hqb]; exact T1 j, fun j => by rw [hsb]; exact T2 j, by rw [hqb]; exact T3 2, by rw [hsb]; exact T4 2, ?_⟩
      have := pbox_size hB3
      omega
    · rename_i K hK
      obtain ⟨qb, hqb⟩ : ∃ qb, qb = w3.heap.size + 1 := ⟨_, rfl⟩
      obtain ⟨sb, hsb⟩ : ∃ sb, sb = w3.heap.size := ⟨_, rfl⟩
      obtain ⟨W4, hW4⟩ : ∃ W4, W4 = ((w3.alloc (.cells #[.string nm, .slice va nv vc, .slice (some ⟨b, o, none⟩) nr rc] 33)).alloc (.cells #[.string nm, .slice va nv vc, .slice (some ⟨b, o, none⟩) nr rc] 33)).drew.drew := ⟨_, rfl⟩
      have hT := two_boxes hB3
      rw [← hW4] at hT
      obtain ⟨HB4, T1, T2, T3, T4, T5⟩ := hT
      rw [← hqb, ← hsb]
      rw [← hW4]
      refine hK _ _ ?_
      clear hK
      refine key qb sb W4 ⟨HB4, fun j => by rw [hqb]; exact T2 j, fun j => by rw [hsb]; exact T1 j, by rw [hqb]; exact T4 2, by rw [hsb]; exact T3 2, ?_⟩
      have := pbox_size hB3
      omega
  · intro qb sb W4 hF
    obtain ⟨HB4, hqc, hsc, hqf, hsf, hqs⟩ := hF
    have HQs := Lib.hid hqs
    have HQc := Lib.hid hqc
    have HSc := Lib.hid hsc
    have HQf := Lib.hid hqf
    have HSf := Lib.hid hsf
    have HB4' := Lib.hid HB4
    have c2' := HB4.c2
    clear hqs hqc hsc hqf hsf HB4 o10 o11 o12 o20 o21 o22 r0 r1 r2 hB3 hb3 hB2 hb2
    have i0 : (0 : Int) ≤ (i : Int) := by omega
    have irc : (i : Int) ≤ (rc : Int) := by omega
    have i1 : (0 : Int) ≤ (i : Int) + 1 := by omega
    have i1n : (i : Int) + 1 ≤ (nr : Int) := by omega
    have nrrc : (nr : Int) ≤ (rc : Int) := by omega
    have i1t : ((i : Int) + 1).toNat = i + 1 := by omega
    have hsum : IntKind.i64.wrap ((i : Int) + 1) = (i : Int) + 1 := IntWalk.i64_in _ (by omega)
    have HTk : Hid (∀ w, Below W.heap.size W w → ∀ j u, (flatS ruleK (p.rules.take i))[j]? = some u → w.cell? ((⟨b, o, none⟩ : Addr).add j) = some u) := Lib.hid (fun w hb => by
      have h := HP.out.rrow.below hb
      rw [HRA.out] at h
      have h2 := RowAt.part (R := ruleK) h (p := 0) (k := i) (by have := HNr.out; omega)
      rw [Nat.zero_mul, Nat.add_zero] at h2
      exact row_cells (R := ruleK) h2)
    have HSl : Hid (Value.slice (if rc = i + 1 then some ⟨b, o, none⟩ else some ⟨b, o + (i + 1) * 3, none⟩) (nr - (i + 1)) (rc - (i + 1)) = Value.slice (some (if rc = i + 1 then ⟨b, o, none⟩ else ⟨b, o + (i + 1) * 3, none⟩)) (nr - (i + 1)) (rc - (i + 1))) := Lib.hid (by split <;> rfl)
    have HDr : Hid (∀ w, Below W.heap.size W w → ∀ j u, (flatS ruleK (p.rules.drop (i + 1)))[j]? = some u → w.cell? ((if rc = i + 1 then (⟨b, o, none⟩ : Addr) else ⟨b, o + (i + 1) * 3, none⟩).add j) = some u) := Lib.hid (fun w hb => by
      by_cases hr1 : rc = i + 1
      · rw [if_pos hr1, List.drop_eq_nil_of_le (by rw [← HNr.out]; omega)]
        intro j u h
        simp [flatS] at h
      · rw [if_neg hr1]
        have h := HP.out.rrow.below hb
        rw [HRA.out] at h
        have h2 := RowAt.part (R := ruleK) h (p := i + 1) (k := nr - (i + 1)) (by have := HNr.out; omega)
        have e : (p.rules.drop (i + 1)).take (nr - (i + 1)) = p.rules.drop (i + 1) := List.take_of_length_le (by rw [List.length_drop, ← HNr.out]; omega)
        rw [e] at h2
        exact row_cells (R := ruleK) h2)
    have HT5 := Lib.hid (fun w (hb : Below W4.heap.size W4 w) => (⟨(hb.cell (p := ⟨qb, 2, none⟩) HQs.out.2.2.2.1).trans (HQc.out 2), (hb.frozen (p := ⟨qb, 2, none⟩) HQs.out.2.2.2.1).trans HQf.out⟩ : w.cell? ⟨qb, 2, none⟩ = some (.slice (some ⟨b, o, none⟩) nr rc) ∧ w.frozen? ⟨qb, 2, none⟩ = false))
    have HBd : Hid (Below W4.heap.size W4 W4.drew) := Lib.hid (Below.refl _ _).drew
    have HS5 := Lib.hid (fun w (hg : W4.grownBy w (some qb)) => (⟨hg.cell c2' (by intro e; injection e with e; dsimp only at e; have := HQs.out; omega), hg⟩ : w.cell? ⟨W.heap.size, 2, none⟩ = some (.slice (some ⟨b, o, none⟩) nr rc) ∧ W4.grownBy w (some qb)))
    go_wp2
    go_region_held3 (fun w' => w'.cell? ⟨W.heap.size, 2, none⟩ = some (.slice (some ⟨b, o, none⟩) nr rc) ∧ W4.grownBy w' (some qb)) (first | exact HS5.out _ ((grown_below hb10 _).trans (grown_set7 _ _ _ _)) | exact HS5.out _ (grown_below hb10 _) | exact HS5.out _ (grown_below hb9 _) | exact HS5.out _ (grown_below HBd.out _)) ((first
      | (refine step_copyS ruleK rfl (.const (.slice none 0 0)) (.tmp 41) rfl W4.heap.size ⟨b, o, none⟩ rc (p.rules.take i) i (by rw [List.length_take, ← HNr.out]; omega) rfl rfl (HTk.out _ (HB4'.out.next HBd.out).bel) (by omega) HBd.out.size ?_; intro a9 c9 w9 O9 hb90; have hb9 := HBd.out.trans (hb90.mono HBd.out.size))
      | (refine step_appS ruleK rfl (.tmp 42) (.tmp 47) rfl W4.heap.size (.slice a9 i c9) (p.rules.take i) i (by rw [List.length_take, ← HNr.out]; omega) O9 (if rc = i + 1 then ⟨b, o, none⟩ else ⟨b, o + (i + 1) * 3, none⟩) (rc - (i + 1)) (p.rules.drop (i + 1)) (nr - (i + 1)) (by rw [List.length_drop, ← HNr.out]) rfl HSl.out (HDr.out w9 (HB4'.out.next hb9).bel) (by omega) hb9.size ?_; intro a10 c10 w10 O10 g10; have hb10 := Below.grown hb9 g10 hb9.size (OwnS.shape_low O9); obtain ⟨y0, y1⟩ := HT5.out w10 hb10)))
    obtain ⟨W12, hW12⟩ : ∃ W12, W12 = w10.setCell ⟨qb, 2, none⟩ (.slice a10 (i + (nr - (i + 1))) c10) := ⟨_, rfl⟩
    have hg12 : W4.grownBy W12 (some qb) := by rw [hW12]; exact (grown_below hb10 _).trans (grown_set7 _ _ _ _)
    have hB12 : Pbox nm va nv vc (some ⟨b, o, none⟩) nr rc W W12 := by
      rw [hW12]
      exact (HB4'.out.next hb10).setOwn (g := qb) (i := 2) HQs.out.2.1 _
    have hq12 : W12.cell? ⟨qb, 0, none⟩ = some (.string nm) ∧ W12.cell? ⟨qb, 1, none⟩ = some (.slice va nv vc) ∧ W12.cell? ⟨qb, 2, none⟩ = some (.slice a10 (i + (nr - (i + 1))) c10) := by
      rw [hW12]
      exact ⟨(set_other (by simp)).trans ((hb10.cell (p := ⟨qb, 0, none⟩) HQs.out.2.2.2.1).trans (HQc.out 0)), (set_other (by simp)).trans ((hb10.cell (p := ⟨qb, 1, none⟩) HQs.out.2.2.2.1).trans (HQc.out 1)), set_same y0⟩
    have hO12 : OwnS ruleK W4.heap.size W12 (.slice a10 (i + (nr - (i + 1))) c10) (p.rules.take i ++ p.rules.drop (i + 1)) := by
      rw [hW12]
      exact own_set1 O10 HQs.out.2.2.2.1
    have hs12 : ∀ j, W12.cell? ⟨sb, j, none⟩ = W4.cell? ⟨sb, j, none⟩ := fun j => by
      rw [hW12]
      have := HQs.out.1
      exact (set_other (by intro e; injection e with e1 e2; exact this e1)).trans (hb10.cell (p := ⟨sb, j, none⟩) HQs.out.2.2.2.2)
    have hsf12 : W12.frozen? ⟨sb, 2, none⟩ = false := by
      rw [hW12, World.frozen?_setCell]
      exact (hb10.frozen (p := ⟨sb, 2, none⟩) HQs.out.2.2.2.2).trans HSf.out
    have hz12 : W4.heap.size ≤ W12.heap.size := hg12.size
    have HO12 := Lib.hid hO12
    have HO12l := Lib.hid (fun k e => (World.ownsRow.lt hO12 k e).2)
    have c12 := hB12.c2
    have HB12 := Lib.hid hB12
    have hql : qb < W12.heap.size := Nat.lt_of_lt_of_le HQs.out.2.2.2.1 hz12
    have hsl : sb < W12.heap.size := Nat.lt_of_lt_of_le HQs.out.2.2.2.2 hz12
    have HQ12 := Lib.hid (fun w (hb : Below W12.heap.size W12 w) => (⟨(hb.cell (p := ⟨qb, 0, none⟩) hql).trans hq12.1, (hb.cell (p := ⟨qb, 1, none⟩) hql).trans hq12.2.1, (hb.cell (p := ⟨qb, 2, none⟩) hql).trans hq12.2.2⟩ : w.cell? ⟨qb, 0, none⟩ = some (.string nm) ∧ w.cell? ⟨qb, 1, none⟩ = some (.slice va nv vc) ∧ w.cell? ⟨qb, 2, none⟩ = some (.slice a10 (i + (nr - (i + 1))) c10)))
    have HS12 := Lib.hid (fun w (hb : Below W12.heap.size W12 w) => (⟨fun j => (hb.cell (p := ⟨sb, j, none⟩) hsl).trans ((hs12 j).trans (HSc.out j)), (hb.frozen (p := ⟨sb, 2, none⟩) hsl).trans hsf12, Nat.lt_of_lt_of_le hsl hb.size⟩ : (∀ j, w.cell? ⟨sb, j, none⟩ = (#[Value.string nm, .slice va nv vc, .slice (some ⟨b, o, none⟩) nr rc] : Array Value)[j]?) ∧ w.frozen? ⟨sb, 2, none⟩ = false ∧ sb < w.heap.size))
    have Hql := Lib.hid hql
    have Hsl := Lib.hid hsl
    rw [← hW12]
    clear hW12 hg12 hB12 hq12 hO12 hs12 hsf12 hz12 hql hsl hb10 hb9 hb90 O9 O10 g10 y0 y1 HS5 HT5 HBd HTk HDr HSl c2' hsum i1t
    generalize (if rc = i + 1 then some (⟨b, o, none⟩ : Addr) else some ⟨b, o + (i + 1) * 3, none⟩) = vv
    go_wp2_with (at_builtin; refine wpList_copyS ruleK rfl _ _ rfl W12.heap.size ⟨b, o, none⟩ rc p.rules nr HNr.out rfl rfl (HCe.out _ HB12.out.bel) (by omega) (Nat.le_refl _) ?_; intro a13 c13 w13 O13 hb13; obtain ⟨y0', y1, y2⟩ := HS12.out _ hb13; have y0 := y0' 2; clear y0')
    obtain ⟨g, cg, hv13, hgB, hgl, hgf⟩ := O13.block (by have := HNr.out; omega)
    injection hv13 with hva1 hvb1 hvc1
    subst hva1 hvc1
    clear hvb1
    have hcap13 : nr ≤ c13 := by
      obtain ⟨_, _, e, hcap, _⟩ := O13.shape
      injection e with _ e2 e3
      have := HNr.out
      omega
    obtain ⟨a13', c13', hv13, _, hrow13, _⟩ := O13.shape
    injection hv13 with hva1 hvb1 hvc1
    subst hva1
    clear hvb1 hvc1
    obtain ⟨W14, hW14⟩ : ∃ W14, W14 = w13.setCell ⟨sb, 2, none⟩ (.slice (some ⟨g, 0, none⟩) nr c13) := ⟨_, rfl⟩
    have hgs : g ≠ sb := by have := Hsl.out; omega
    have hgW : W.heap.size + 1 ≤ g := by have := pbox_size HB12.out; omega
    have hB14 : Pbox nm va nv vc (some ⟨b, o, none⟩) nr rc W W14 := by
      rw [hW14]
      exact (HB12.out.next hb13).setOwn (g := sb) (i := 2) HQs.out.2.2.1 _
    have hgc : ∀ off, W14.cell? ⟨g, off, none⟩ = w13.cell? ⟨g, off, none⟩ := fun off => by
      rw [hW14]
      exact set_other (by intro e; injection e with e1 e2; exact hgs e1.symm)
    have hgf14 : ∀ off, W14.frozen? ⟨g, off, none⟩ = false := fun off => by
      rw [hW14, World.frozen?_setCell]
      exact hgf off
    have hrow14 : RowAt 3 RuleV.cells W14 (some ⟨g, 0, none⟩) p.rules := by
      refine ⟨hrow13.size, fun h0 => ?_⟩
      obtain ⟨b', o', e, _, hc⟩ := hrow13.row h0
      injection e with e
      injection e with e1 e2
      subst e1 e2
      exact ⟨g, 0, rfl, by rw [hW14, size_set7]; exact hgl, fun j hj x hx => (hgc _).trans (hc j hj x hx)⟩
    have hs14 : W14.cell? ⟨sb, 0, none⟩ = some (.string nm) ∧ W14.cell? ⟨sb, 1, none⟩ = some (.slice va nv vc) ∧ W14.cell? ⟨sb, 2, none⟩ = some (.slice (some ⟨g, 0, none⟩) nr c13) := by
      obtain ⟨z0, _, _⟩ := HS12.out _ hb13
      rw [hW14]
      exact ⟨(set_other (by simp)).trans (z0 0), (set_other (by simp)).trans (z0 1), set_same y0⟩
    have hq14 : W14.cell? ⟨qb, 0, none⟩ = some (.string nm) ∧ W14.cell? ⟨qb, 1, none⟩ = some (.slice va nv vc) ∧ W14.cell? ⟨qb, 2, none⟩ = some (.slice a10 (i + (nr - (i + 1))) c10) := by
      obtain ⟨z0, z1, z2⟩ := HQ12.out _ hb13
      have hne := HQs.out.1
      rw [hW14]
      exact ⟨(set_other (by intro e; injection e with e1 e2; exact hne e1.symm)).trans z0, (set_other (by intro e; injection e with e1 e2; exact hne e1.symm)).trans z1, (set_other (by intro e; injection e with e1 e2; exact hne e1.symm)).trans z2⟩
    have hgl14 : g < W14.heap.size := by rw [hW14, size_set7]; exact hgl
    have hi' : i < p.rules.length := by have := HNr.out; omega
    have hk' : k < p.rules.length := by have := HNr.out; omega
    obtain ⟨ri, hri⟩ : ∃ ri, ri = p.rules[i] := ⟨_, rfl⟩
    obtain ⟨rk, hrk⟩ : ∃ rk, rk = p.rules[k] := ⟨_, rfl⟩
    have hat : ∀ x (hx : x < p.rules.length) j, j < 3 → W14.cell? ⟨g, x * 3 + j, none⟩ = (RuleV.cells p.rules[x])[j]? := fun x hx j hj => by
      obtain ⟨b', o', e, _, hc⟩ := hrow14.row (by omega)
      injection e with e
      injection e with e1 e2
      subst e1 e2
      have h := hc x hx j hj
      rwa [Nat.zero_add] at h
    have m0 := hat i hi' 0 (by decide)
    have m1 := hat i hi' 1 (by decide)
    have m2 := hat i hi' 2 (by decide)
    have n0 := hat k hk' 0 (by decide)
    have n1 := hat k hk' 1 (by decide)
    have n2 := hat k hk' 2 (by decide)
    rw [← hri] at m0 m1 m2
    rw [← hrk] at n0 n1 n2
    have HRi := Lib.hid hri
    have HRk := Lib.hid hrk
    have HAt := Lib.hid hat
    have HRow14 := Lib.hid hrow14
    have HGf := Lib.hid hgf14
    clear hri hrk hat hrow14
    change W14.cell? _ = some (.string ri.name) at m0
    change W14.cell? _ = some (.slice ri.ga ri.guard.length ri.gc) at m1
    change W14.cell? _ = some (.slice ri.sa ri.sets.length ri.sc) at m2
    change W14.cell? _ = some (.string rk.name) at n0
    change W14.cell? _ = some (.slice rk.ga rk.guard.length rk.gc) at n1
    change W14.cell? _ = some (.slice rk.sa rk.sets.length rk.sc) at n2
    rw [Nat.add_zero] at m0 n0
    have fi0 := hgf14 (i * 3)
    have fi1 := hgf14 (i * 3 + 1)
    have fi2 := hgf14 (i * 3 + 2)
    have fk0 := hgf14 (k * 3)
    have fk1 := hgf14 (k * 3 + 1)
    have fk2 := hgf14 (k * 3 + 2)
    have sc2 := hs14.2.2
    have s3 : ∀ x y z, (((W14.setCell ⟨g, i * 3, none⟩ x).setCell ⟨g, i * 3 + 1, none⟩ y).setCell ⟨g, i * 3 + 2, none⟩ z).cell? ⟨sb, 2, none⟩ = some (.slice (some ⟨g, 0, none⟩) nr c13) := fun x y z => (set3_others _ _ (.inl hgs.symm)).trans sc2
    have k0 : (0 : Int) ≤ (k : Int) := by omega
    have inr : (i : Int) < (nr : Int) := by omega
    have knr : (k : Int) < (nr : Int) := by omega
    rw [← hW14]
    have e3 : ∀ x y z, (((W14.setCell ⟨g, i * 3, none⟩ x).setCell ⟨g, i * 3 + 1, none⟩ y).setCell ⟨g, i * 3 + 2, none⟩ z).cell? ⟨g, k * 3, none⟩ = some (if k = i then x else .string rk.name) := fun x y z => by
      by_cases hki : k = i
      · subst hki
        rw [if_pos rfl]
        exact set3_new m0 m1 m2 0 (by decide)
      · rw [if_neg hki]
        exact (set3_others _ _ (.inr (by omega))).trans n0
    have e4 : ∀ x y z, (((W14.setCell ⟨g, i * 3, none⟩ x).setCell ⟨g, i * 3 + 1, none⟩ y).setCell ⟨g, i * 3 + 2, none⟩ z).cell? ⟨g, k * 3 + 1, none⟩ = some (if k = i then y else .slice rk.ga rk.guard.length rk.gc) := fun x y z => by
      by_cases hki : k = i
      · subst hki
        rw [if_pos rfl]
        exact set3_new m0 m1 m2 1 (by decide)
      · rw [if_neg hki]
        exact (set3_others _ _ (.inr (by omega))).trans n1
    have e5 : ∀ x y z, (((W14.setCell ⟨g, i * 3, none⟩ x).setCell ⟨g, i * 3 + 1, none⟩ y).setCell ⟨g, i * 3 + 2, none⟩ z).cell? ⟨g, k * 3 + 2, none⟩ = some (if k = i then z else .slice rk.sa rk.sets.length rk.sc) := fun x y z => by
      by_cases hki : k = i
      · subst hki
        rw [if_pos rfl]
        exact set3_new m0 m1 m2 2 (by decide)
      · rw [if_neg hki]
        exact (set3_others _ _ (.inr (by omega))).trans n2
    have hO14 : OwnS ruleK W4.heap.size W14 (.slice a10 (i + (nr - (i + 1))) c10) (p.rules.take i ++ p.rules.drop (i + 1)) := by
      rw [hW14]
      exact own_set1 (OwnS.far HO12.out hb13) HQs.out.2.2.2.2
    have hne12 : ∀ k, (Value.slice a10 (i + (nr - (i + 1))) c10).ownBlock = some k → k ≠ g := fun k e => by
      have := HO12l.out k e
      omega
    have HO14 := Lib.hid hO14
    have HNe := Lib.hid hne12
    have HB14 := Lib.hid hB14
    have HS14 := Lib.hid hs14
    have HQ14 := Lib.hid hq14
    have HG14 : Hid (g < W14.heap.size ∧ W.heap.size + 1 ≤ g ∧ g ≠ sb ∧ g ≠ qb) := Lib.hid ⟨hgl14, hgW, hgs, by have := Hql.out; omega⟩
    have HE3 := Lib.hid e3
    have HE4 := Lib.hid e4
    have HE5 := Lib.hid e5
    clear hW14 hb13 O13 y0 y1 y2 hrow13 hgc hgf14 hO14 hne12 hB14 hs14 hq14 hgl14 hgW hgs
    go_region
    obtain ⟨W19, hW19⟩ : ∃ W19, W19 = ((((((W14.setCell ⟨g, i * 3, none⟩ (.string rk.name)).setCell ⟨g, i * 3 + 1, none⟩ (.slice rk.ga rk.guard.length rk.gc)).setCell ⟨g, i * 3 + 2, none⟩ (.slice rk.sa rk.sets.length rk.sc)).setCell ⟨g, k * 3, none⟩ (.string ri.name)).setCell ⟨g, k * 3 + 1, none⟩ (.slice ri.ga ri.guard.length ri.gc)).setCell ⟨g, k * 3 + 2, none⟩ (.slice ri.sa ri.sets.length ri.sc)) := ⟨_, rfl⟩
    have hG := HG14.out
    have hot : ∀ b' off, b' ≠ g → W19.cell? ⟨b', off, none⟩ = W14.cell? ⟨b', off, none⟩ := fun b' off h => by
      rw [hW19]
      exact (set3_others (g := g) (i := k) (w := (((W14.setCell ⟨g, i * 3, none⟩ (.string rk.name)).setCell ⟨g, i * 3 + 1, none⟩ (.slice rk.ga rk.guard.length rk.gc)).setCell ⟨g, i * 3 + 2, none⟩ (.slice rk.sa rk.sets.length rk.sc))) b' off (.inl h)).trans (set3_others (g := g) (i := i) (w := W14) b' off (.inl h))
    have hB20 : Pbox nm va nv vc (some ⟨b, o, none⟩) nr rc W W19 := by
      rw [hW19]
      exact (((((HB14.out.setOwn (g := g) (i := i * 3) hG.2.1 _).setOwn (g := g) (i := i * 3 + 1) hG.2.1 _).setOwn (g := g) (i := i * 3 + 2) hG.2.1 _).setOwn (g := g) (i := k * 3) hG.2.1 _).setOwn (g := g) (i := k * 3 + 1) hG.2.1 _).setOwn (g := g) (i := k * 3 + 2) hG.2.1 _
    have hO20 : OwnS ruleK W4.heap.size W19 (.slice a10 (i + (nr - (i + 1))) c10) (p.rules.take i ++ p.rules.drop (i + 1)) := by
      rw [hW19]
      exact own_ne3 (own_ne3 HO14.out HNe.out) HNe.out
    have hrow15 : RowAt 3 RuleV.cells (((W14.setCell ⟨g, i * 3, none⟩ (.string rk.name)).setCell ⟨g, i * 3 + 1, none⟩ (.slice rk.ga rk.guard.length rk.gc)).setCell ⟨g, i * 3 + 2, none⟩ (.slice rk.sa rk.sets.length rk.sc)) (some ⟨g, 0, none⟩) (p.rules.set i rk) :=
      row_set3 HRow14.out rk (fun j hj => by
        rw [set3_new m0 m1 m2 j hj]
        rfl) (fun off ho => set3_others _ _ (.inr ho)) (by simp only [size_set7]; exact hG.1)
    have hrow20 : RowAt 3 RuleV.cells W19 (some ⟨g, 0, none⟩) ((p.rules.set i rk).set k ri) := by
      rw [hW19]
      exact row_set3 hrow15 ri (fun j hj => by
        refine (set3_new (HE3.out _ _ _) (HE4.out _ _ _) (HE5.out _ _ _) j hj).trans ?_
        rfl) (fun off ho => set3_others (w := (((W14.setCell ⟨g, i * 3, none⟩ (.string rk.name)).setCell ⟨g, i * 3 + 1, none⟩ (.slice rk.ga rk.guard.length rk.gc)).setCell ⟨g, i * 3 + 2, none⟩ (.slice rk.sa rk.sets.length rk.sc))) _ _ (.inr ho)) (by show g < ((((((W14.setCell ⟨g, i * 3, none⟩ (.string rk.name)).setCell ⟨g, i * 3 + 1, none⟩ (.slice rk.ga rk.guard.length rk.gc)).setCell ⟨g, i * 3 + 2, none⟩ (.slice rk.sa rk.sets.length rk.sc)).setCell ⟨g, k * 3, none⟩ (.string ri.name)).setCell ⟨g, k * 3 + 1, none⟩ (.slice ri.ga ri.guard.length ri.gc)).setCell ⟨g, k * 3 + 2, none⟩ (.slice ri.sa ri.sets.length ri.sc)).heap.size; simp only [size_set7]; exact hG.1)
    have hs20 : W19.cell? ⟨sb, 0, none⟩ = some (.string nm) ∧ W19.cell? ⟨sb, 1, none⟩ = some (.slice va nv vc) ∧ W19.cell? ⟨sb, 2, none⟩ = some (.slice (some ⟨g, 0, none⟩) nr c13) :=
      ⟨(hot _ _ hG.2.2.1.symm).trans HS14.out.1, (hot _ _ hG.2.2.1.symm).trans HS14.out.2.1, (hot _ _ hG.2.2.1.symm).trans HS14.out.2.2⟩
    have hq20 : W19.cell? ⟨qb, 0, none⟩ = some (.string nm) ∧ W19.cell? ⟨qb, 1, none⟩ = some (.slice va nv vc) ∧ W19.cell? ⟨qb, 2, none⟩ = some (.slice a10 (i + (nr - (i + 1))) c10) :=
      ⟨(hot _ _ hG.2.2.2.symm).trans HQ14.out.1, (hot _ _ hG.2.2.2.symm).trans HQ14.out.2.1, (hot _ _ hG.2.2.2.symm).trans HQ14.out.2.2⟩
    have hz20 : qb < W19.heap.size ∧ sb < W19.heap.size := by
      have e : W19.heap.size = W14.heap.size := by
        rw [hW19]
        show ((((((W14.setCell ⟨g, i * 3, none⟩ (.string rk.name)).setCell ⟨g, i * 3 + 1, none⟩ (.slice rk.ga rk.guard.length rk.gc)).setCell ⟨g, i * 3 + 2, none⟩ (.slice rk.sa rk.sets.length rk.sc)).setCell ⟨g, k * 3, none⟩ (.string ri.name)).setCell ⟨g, k * 3 + 1, none⟩ (.slice ri.ga ri.guard.length ri.gc)).setCell ⟨g, k * 3 + 2, none⟩ (.slice ri.sa ri.sets.length ri.sc)).heap.size = _
        simp only [size_set7]
      have h1 := Hql.out
      have h2 := Hsl.out
      have h3 := cell_lt HQ14.out.1
      have h4 := cell_lt HS14.out.1
      dsimp only at h3 h4
      omega
    have hP20 := HP.out.below hB20.bel
    have hqAt : (p.withRules a10 c10 (p.rules.take i ++ p.rules.drop (i + 1))).At W19 := by
      obtain ⟨a', c', e, hcap, hrw, _⟩ := hO20.shape
      injection e with e1 e2 e3
      subst e1 e3
      refine ⟨hP20.fits, hP20.vrow, hP20.vcap, hP20.vars, hrw, hcap, fun r hr => hP20.rules r ?_⟩
      rcases List.mem_append.1 hr with h | h
      · exact List.mem_of_mem_take h
      · exact List.mem_of_mem_drop h
    have hqF : (p.withRules a10 c10 (p.rules.take i ++ p.rules.drop (i + 1))).Few := by
      refine ⟨HF.out.vars, ?_, fun r hr => HF.out.each r ?_⟩
      · show (p.rules.take i ++ p.rules.drop (i + 1)).length ≤ 1000
        have := HF.out.rules
        rw [List.length_append, List.length_take, List.length_drop]
        omega
      · rcases List.mem_append.1 hr with h | h
        · exact List.mem_of_mem_take h
        · exact List.mem_of_mem_drop h
    have HQv := Lib.hid (fun w (hb : Below W19.heap.size W19 w) => (by
      have h := validP7_any _ w (hqAt.below hb) hqF
      rw [decide_eq_true (ok_iff.2 (ok_without HO.out a10 c10 i))] at h
      unfold ProgV.value ProgV.withRules at h
      dsimp only at h
      rw [List.length_append, List.length_take, List.length_drop, ← HNr.out, Nat.min_eq_left (by omega), ← HNv.out, ← HNm.out, ← HVa.out, HVc.out] at h
      exact h : Calls Try.prog 18 #[.agg #[.string nm, .slice va nv vc, .slice a10 (i + (nr - (i + 1))) c10]] w fun e w' => e = .returned (.bool true) ∧ Below w.heap.size w w'))
    have hmem : ∀ r ∈ (p.rules.set i rk).set k ri, r ∈ p.rules := fun r hr => by
      rcases List.mem_or_eq_of_mem_set hr with h | rfl
      · rcases List.mem_or_eq_of_mem_set h with h | rfl
        · exact h
        · rw [HRk.out]; exact List.getElem_mem hk'
      · rw [HRi.out]; exact List.getElem_mem hi'
    have hsAt : (p.withRules (some ⟨g, 0, none⟩) c13 ((p.rules.set i rk).set k ri)).At W19 :=
      ⟨hP20.fits, hP20.vrow, hP20.vcap, hP20.vars, hrow20, by show ((p.rules.set i rk).set k ri).length ≤ c13; rw [List.length_set, List.length_set, ← HNr.out]; exact hcap13, fun r hr => hP20.rules r (hmem r hr)⟩
    have hsF : (p.withRules (some ⟨g, 0, none⟩) c13 ((p.rules.set i rk).set k ri)).Few :=
      ⟨HF.out.vars, by show ((p.rules.set i rk).set k ri).length ≤ 1000; rw [List.length_set, List.length_set]; exact HF.out.rules, fun r hr => HF.out.each r (hmem r hr)⟩
    have hsO : OkP (p.withRules (some ⟨g, 0, none⟩) c13 ((p.rules.set i rk).set k ri)) := by
      rw [HRi.out, HRk.out]
      exact ok_swapped HO.out _ _ hi' hk'
    have HSv := Lib.hid (fun w (hb : Below W19.heap.size W19 w) => (by
      have h := validP7_any _ w (hsAt.below hb) hsF
      rw [decide_eq_true (ok_iff.2 hsO)] at h
      unfold ProgV.value ProgV.withRules at h
      dsimp only at h
      rw [List.length_set, List.length_set, ← HNr.out, ← HNv.out, ← HNm.out, ← HVa.out, HVc.out] at h
      exact h : Calls Try.prog 18 #[.agg #[.string nm, .slice va nv vc, .slice (some ⟨g, 0, none⟩) nr c13]] w fun e w' => e = .returned (.bool true) ∧ Below w.heap.size w w'))
    have HQ20 := Lib.hid (fun w (hb : Below W19.heap.size W19 w) => (⟨(hb.cell (p := ⟨qb, 0, none⟩) hz20.1).trans hq20.1, (hb.cell (p := ⟨qb, 1, none⟩) hz20.1).trans hq20.2.1, (hb.cell (p := ⟨qb, 2, none⟩) hz20.1).trans hq20.2.2⟩ : w.cell? ⟨qb, 0, none⟩ = some (.string nm) ∧ w.cell? ⟨qb, 1, none⟩ = some (.slice va nv vc) ∧ w.cell? ⟨qb, 2, none⟩ = some (.slice a10 (i + (nr - (i + 1))) c10)))
    have HS20 := Lib.hid (fun w (hb : Below W19.heap.size W19 w) => (⟨(hb.cell (p := ⟨sb, 0, none⟩) hz20.2).trans hs20.1, (hb.cell (p := ⟨sb, 1, none⟩) hz20.2).trans hs20.2.1, (hb.cell (p := ⟨sb, 2, none⟩) hz20.2).trans hs20.2.2⟩ : w.cell? ⟨sb, 0, none⟩ = some (.string nm) ∧ w.cell? ⟨sb, 1, none⟩ = some (.slice va nv vc) ∧ w.cell? ⟨sb, 2, none⟩ = some (.slice (some ⟨g, 0, none⟩) nr c13)))
    have HB20 := Lib.hid hB20
    have HDr19 : Hid (Below W19.heap.size W19 W19.drew) := Lib.hid (Below.refl _ _).drew
    rw [← hW19]
    clear hW19 hot hB20 hO20 hrow15 hrow20 hs20 hq20 hz20 hP20 hqAt hqF hmem hsAt hsF hsO hG m0 m1 m2 n0 n1 n2 fi0 fi1 fi2 fk0 fk1 fk2 sc2 s3 e3 e4 e5 c12
    go_wp2_with (first
      | (go_at_call 12; refine (HA.out _).mono ?_; rintro e w28 ⟨rfl, hb28'⟩; have hb28 := HDr19.out.trans (hb28'.mono HDr19.out.size); have hB28 := HB20.out.next hb28; obtain ⟨e0, e1, e2⟩ := HQ20.out _ hb28)
      | (go_at_call 18; first
          | ((with_reducible refine (HSv.out _ hb30).mono ?_); rintro e w31 ⟨rfl, hb31⟩; have hB31 := hB30.next hb31)
          | ((with_reducible refine (HQv.out _ hb28).mono ?_); rintro e w30 ⟨rfl, hb30'⟩; have hB30 := hB28.next hb30'; have hb30 := hb28.trans (hb30'.mono hb28.size); obtain ⟨d0, d1, d2⟩ := HS20.out _ hb30)))
    go_ret
    exact ⟨rfl, hB31.bel⟩
end Go.Proofs.Ytckofngclgkajaa
