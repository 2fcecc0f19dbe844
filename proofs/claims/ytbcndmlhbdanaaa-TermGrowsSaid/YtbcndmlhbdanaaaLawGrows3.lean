/- TermGrows, operations with 3 operands. -/
import Derived.Test.YtbcndmlhbdanaaaTermArg
import Derived.Test.YtbcndmlhbdanaaaTermMod
import Derived.Test.YtbcndmlhbdanaaaTermGrow
import Derived.Lib.MinMax
namespace Go.Proofs.Ytbcndmlhbdanaaa.lawTermGrows
open Go.RowKit Go.Proofs.Ytbcndmlhbdanaaa

theorem own_lo3 {w : World} {B : Nat} {v : Value} {xs : List (Int × Int)} (h : OwnT B w v xs) {g : Nat} (e : v.ownBlock = some g) : B ≤ g := by
  rcases h.2 with ⟨rfl, _⟩ | ⟨g', cap, cur, rfl, hg, _⟩
  · cases e
  · simp [Value.ownBlock] at e
    omega
/-- an operation in front of its operands, three operands -/
theorem grows3_says {s : Nat} (hs : s = 25) {xa xb xc : List (Int × Int)} (ha : validE xa 6 = true) (hb : validE xb 6 = true) (hc : validE xc 6 = true) :
    oneB ((18 + (s : Int), 0) :: xa ++ xb ++ xc) = true ∧ depF ((18 + (s : Int), 0) :: xa ++ xb ++ xc) = (max (max (depF xa) (depF xb)) (depF xc)) + 1 ∧ nesF ((18 + (s : Int), 0) :: xa ++ xb ++ xc) = (max (max (nesF xa) (nesF xb)) (nesF xc)) ∧ validE ((18 + (s : Int), 0) :: xa ++ xb ++ xc) 6 = (decide (((18 + (s : Int), 0) :: xa ++ xb ++ xc).length ≤ 200) && decide ((max (max (depF xa) (depF xb)) (depF xc)) < 24) && decide ((max (max (nesF xa) (nesF xb)) (nesF xc)) ≤ 2)) := by
  obtain ⟨g1, g2, g3, g4⟩ := grow3 (op := 18 + (s : Int)) (vars := 6) (by omega) ha hb hc
  obtain ⟨_, _, _, _, e2, _, hn1, _⟩ := valid_exs ha
  obtain ⟨_, _, _, _, f2, _, hn2, _⟩ := valid_exs hb
  obtain ⟨_, _, _, _, k2, _, hn3, _⟩ := valid_exs hc
  have h9 : decide (max (max (nesF xa) (nesF xb)) (nesF xc) ≤ 2) = true := decide_eq_true (by omega)
  have e1 : ((18 + (s : Int), (0 : Int)) :: xa) ++ xb ++ xc = (18 + (s : Int), 0) :: (xa ++ (xb ++ xc)) := by simp
  have e2' : max (max (depF xa) (depF xb)) (depF xc) = max (depF xa) (max (depF xb) (depF xc)) := by omega
  have e3 : max (max (nesF xa) (nesF xb)) (nesF xc) = max (nesF xa) (max (nesF xb) (nesF xc)) := by omega
  rw [e1]
  refine ⟨g1, by rw [g2, e2'], by rw [g3, e3], ?_⟩
  rw [g4, h9, e2', List.length_cons, List.length_append, List.length_append, Bool.and_true]
  congr 3
  omega
set_option maxHeartbeats 16000000 in
theorem grows3 (W : World) (aa : Option Addr) (ca : Nat) (xa : List (Int × Int)) (hXa : LinksAt W aa xa) (ab : Option Addr) (cb : Nat) (xb : List (Int × Int)) (hXb : LinksAt W ab xb) (ac : Option Addr) (cc : Nat) (xc : List (Int × Int)) (hXc : LinksAt W ac xc)
    (hla : xa.length ≤ 250) (hlb : xb.length ≤ 250) (hlc : xc.length ≤ 250) (hva : validE xa 6 = true) (hvb : validE xb 6 = true) (hvc : validE xc 6 = true) (k : Int) (h64 : I64 k) (s : Nat) (hks : k % ((26 : Nat) : Int) = s) (hs : s = 25) :
    Calls Try.prog 7 #[.int .i64 k, .slice aa xa.length ca, .slice ab xb.length cb, .slice ac xc.length cc] W fun e W' => e = .returned (.bool true) ∧ Below W.heap.size W W' := by
  have HAw := Lib.hid (fun (X : World) (_ : Below W.heap.size W X) => awake_any X)
  have HMod := Lib.hid (fun (X : World) => mod_any k 26 X h64 (by omega) (by omega))
  rw [hks] at HMod
  have HAr : Hid (∀ X : World, Calls Try.prog 13 #[.int .i64 (18 + (s : Int))] X fun e w' => e = .returned (.int .i64 3) ∧ w' = X) := Lib.hid (fun X => (arityR_any _ X).mono (fun e w' h => ⟨by rw [h.1]; congr 2; unfold arF; repeat' split <;> omega, h.2⟩))
  have HAg : Hid (∀ X : World, Calls Try.prog 30 #[.int .i64 (18 + (s : Int))] X fun e w' => e = .returned (.bool false) ∧ w' = X) := Lib.hid (fun X => (aggR_any _ X).mono (fun e w' h => ⟨by rw [h.1, show aggF (18 + (s : Int)) = false by unfold aggF; simp; omega], h.2⟩))
  have HLa : Hid (∀ X : World, Calls Try.prog 10 #[.slice aa xa.length ca] X fun e w' => e = .returned (.bool true) ∧ w' = X) := Lib.hid (fun X => (lightE_any _ _ _ X).mono (fun e w' h => ⟨by rw [h.1, decide_eq_true hla], h.2⟩))
  have HVa : Hid (∀ X : World, Below W.heap.size W X → Calls Try.prog 27 #[.slice aa xa.length ca, .int .i64 6] X fun e w' => e = .returned (.bool true) ∧ Below X.heap.size X w') := Lib.hid (fun X h => (validR_any _ _ _ 6 X (hXa.below h) (by omega)).mono (fun e w' h => ⟨by rw [h.1, hva], h.2⟩))
  have HDa := Lib.hid (fun (X : World) (h : Below W.heap.size W X) => depthP_any aa ca xa X (hXa.below h) (by omega))
  have HEa := Lib.hid (fun (X : World) (h : Below W.heap.size W X) => nestP_any aa ca xa X (hXa.below h) (by omega))
  have HXa := Lib.hid hXa
  have HPa : Hid (0 < xa.length) := Lib.hid (by
    have h2 := valid_one hva
    unfold oneB at h2
    simp only [decide_eq_true_eq] at h2
    exact h2.1)
  obtain ⟨_, _, _, ua1, ua2, ua3, ua4, ua5, _⟩ := valid_exs hva
  have ba1 : 0 ≤ depF xa ∧ depF xa ≤ 24 := by omega
  have ba2 : 0 ≤ nesF xa ∧ nesF xa ≤ 2 := by omega
  clear ua1 ua2 ua3 ua4
  have HLb : Hid (∀ X : World, Calls Try.prog 10 #[.slice ab xb.length cb] X fun e w' => e = .returned (.bool true) ∧ w' = X) := Lib.hid (fun X => (lightE_any _ _ _ X).mono (fun e w' h => ⟨by rw [h.1, decide_eq_true hlb], h.2⟩))
  have HVb : Hid (∀ X : World, Below W.heap.size W X → Calls Try.prog 27 #[.slice ab xb.length cb, .int .i64 6] X fun e w' => e = .returned (.bool true) ∧ Below X.heap.size X w') := Lib.hid (fun X h => (validR_any _ _ _ 6 X (hXb.below h) (by omega)).mono (fun e w' h => ⟨by rw [h.1, hvb], h.2⟩))
  have HDb := Lib.hid (fun (X : World) (h : Below W.heap.size W X) => depthP_any ab cb xb X (hXb.below h) (by omega))
  have HEb := Lib.hid (fun (X : World) (h : Below W.heap.size W X) => nestP_any ab cb xb X (hXb.below h) (by omega))
  have HXb := Lib.hid hXb
  have HPb : Hid (0 < xb.length) := Lib.hid (by
    have h2 := valid_one hvb
    unfold oneB at h2
    simp only [decide_eq_true_eq] at h2
    exact h2.1)
  obtain ⟨_, _, _, ub1, ub2, ub3, ub4, ub5, _⟩ := valid_exs hvb
  have bb1 : 0 ≤ depF xb ∧ depF xb ≤ 24 := by omega
  have bb2 : 0 ≤ nesF xb ∧ nesF xb ≤ 2 := by omega
  clear ub1 ub2 ub3 ub4
  have HLc : Hid (∀ X : World, Calls Try.prog 10 #[.slice ac xc.length cc] X fun e w' => e = .returned (.bool true) ∧ w' = X) := Lib.hid (fun X => (lightE_any _ _ _ X).mono (fun e w' h => ⟨by rw [h.1, decide_eq_true hlc], h.2⟩))
  have HVc : Hid (∀ X : World, Below W.heap.size W X → Calls Try.prog 27 #[.slice ac xc.length cc, .int .i64 6] X fun e w' => e = .returned (.bool true) ∧ Below X.heap.size X w') := Lib.hid (fun X h => (validR_any _ _ _ 6 X (hXc.below h) (by omega)).mono (fun e w' h => ⟨by rw [h.1, hvc], h.2⟩))
  have HDc := Lib.hid (fun (X : World) (h : Below W.heap.size W X) => depthP_any ac cc xc X (hXc.below h) (by omega))
  have HEc := Lib.hid (fun (X : World) (h : Below W.heap.size W X) => nestP_any ac cc xc X (hXc.below h) (by omega))
  have HXc := Lib.hid hXc
  have HPc : Hid (0 < xc.length) := Lib.hid (by
    have h2 := valid_one hvc
    unfold oneB at h2
    simp only [decide_eq_true_eq] at h2
    exact h2.1)
  obtain ⟨_, _, _, uc1, uc2, uc3, uc4, uc5, _⟩ := valid_exs hvc
  have bc1 : 0 ≤ depF xc ∧ depF xc ≤ 24 := by omega
  have bc2 : 0 ≤ nesF xc ∧ nesF xc ≤ 2 := by omega
  clear uc1 uc2 uc3 uc4
  obtain ⟨z1, z2, z3, z4⟩ := grows3_says hs hva hvb hvc
  have hfit : ∀ x ∈ ((18 + (s : Int), 0) :: xa ++ xb ++ xc), I64 x.1 ∧ I64 x.2 := by
    intro x hx
    simp only [List.cons_append, List.mem_cons, List.mem_append] at hx
    rcases hx with rfl | hx
    · unfold I64
      dsimp only
      omega
    · rcases hx with (hx | hx) | hx
      · exact HXa.out.fits x hx
      · exact HXb.out.fits x hx
      · exact HXc.out.fits x hx
  have hel : ((18 + (s : Int), 0) :: xa ++ xb ++ xc).length = xa.length + 1 + xb.length + xc.length := by first | rfl | (simp; done) | (simp; omega)
  have hz : endF ((18 + (s : Int), 0) :: xa ++ xb ++ xc) 0 = ((18 + (s : Int), 0) :: xa ++ xb ++ xc).length := by
    unfold oneB at z1
    simp only [decide_eq_true_eq] at z1
    exact z1.2
  obtain ⟨na, hna⟩ : ∃ na, na = xa.length := ⟨_, rfl⟩
  obtain ⟨nb, hnb⟩ : ∃ nb, nb = xb.length := ⟨_, rfl⟩
  obtain ⟨nc, hnc⟩ : ∃ nc, nc = xc.length := ⟨_, rfl⟩
  rw [hel] at z4 hz
  have hen : ((18 + (s : Int), 0) :: xa ++ xb ++ xc).length ≤ 1000 := by rw [hel]; omega
  rw [← hna] at HLa HVa HDa HEa
  rw [← hnb] at HLb HVb HDb HEb
  rw [← hnc] at HLc HVc HDc HEc
  have hel2 : ((18 + (s : Int), 0) :: xa ++ xb ++ xc).length = 1 + na + nb + nc := by rw [hel]; omega
  have HDe : Hid (∀ (a' : Option Addr) (c' : Nat) (X : World), OwnT W.heap.size X (.slice a' (1 + na + nb + nc) c') ((18 + (s : Int), 0) :: xa ++ xb ++ xc) → Calls Try.prog 18 #[.slice a' (1 + na + nb + nc) c'] X fun e w' => e = .returned (.int .i64 ((max (max (depF xa) (depF xb)) (depF xc)) + 1)) ∧ Below X.heap.size X w') := Lib.hid (fun a' c' X h => by
    have hq := depthP_any a' c' ((18 + (s : Int), 0) :: xa ++ xb ++ xc) X (OwnT.links h hfit) hen
    rw [hel2, z2] at hq
    exact hq)
  have HEe : Hid (∀ (a' : Option Addr) (c' : Nat) (X : World), OwnT W.heap.size X (.slice a' (1 + na + nb + nc) c') ((18 + (s : Int), 0) :: xa ++ xb ++ xc) → Calls Try.prog 20 #[.slice a' (1 + na + nb + nc) c'] X fun e w' => e = .returned (.int .i64 (max (max (nesF xa) (nesF xb)) (nesF xc))) ∧ Below X.heap.size X w') := Lib.hid (fun a' c' X h => by
    have hq := nestP_any a' c' ((18 + (s : Int), 0) :: xa ++ xb ++ xc) X (OwnT.links h hfit) hen
    rw [hel2, z3] at hq
    exact hq)
  have HFe : Hid (∀ (a' : Option Addr) (c' : Nat) (X : World), OwnT W.heap.size X (.slice a' (1 + na + nb + nc) c') ((18 + (s : Int), 0) :: xa ++ xb ++ xc) → Calls Try.prog 14 #[.slice a' (1 + na + nb + nc) c', .int .i64 0] X fun e w' => e = .returned (.int .i64 ((1 + na + nb + nc : Nat) : Int)) ∧ Below X.heap.size X w') := Lib.hid (fun a' c' X h => by
    have hq := endP_any a' c' ((18 + (s : Int), 0) :: xa ++ xb ++ xc) 0 X (OwnT.links h hfit) (by omega)
    rw [hz, hel2, ← hel, hel2] at hq
    exact hq)
  have hV : validE ((18 + (s : Int), 0) :: xa ++ xb ++ xc) 6 = (decide (1 + na + nb + nc ≤ 200) && decide (max (max (depF xa) (depF xb)) (depF xc) < 24) && decide (max (max (nesF xa) (nesF xb)) (nesF xc) ≤ 2)) := by rw [z4, ← hel, hel2]
  have HWe : Hid (∀ (a' : Option Addr) (c' : Nat) (X : World), OwnT W.heap.size X (.slice a' (1 + na + nb + nc) c') ((18 + (s : Int), 0) :: xa ++ xb ++ xc) → Calls Try.prog 26 #[.slice a' (1 + na + nb + nc) c', .int .i64 6] X fun e w' => e = .returned (.bool (decide (1 + na + nb + nc ≤ 200) && decide (max (max (depF xa) (depF xb)) (depF xc) < 24) && decide (max (max (nesF xa) (nesF xb)) (nesF xc) ≤ 2))) ∧ Below X.heap.size X w') := Lib.hid (fun a' c' X h => by
    have hq := validP_any a' c' ((18 + (s : Int), 0) :: xa ++ xb ++ xc) 6 X (OwnT.links h hfit) hen (by unfold I64; decide)
    rw [hel2, hV] at hq
    exact hq)
  have HNa := Lib.hid hna
  have HNb := Lib.hid hnb
  have HNc := Lib.hid hnc
  rw [← hna] at hla ua5 ⊢
  rw [← hnb] at hlb ub5 ⊢
  rw [← hnc] at hlc uc5 ⊢
  clear hna hnb hnc z1 z2 z3 z4 hz hel hel2 hfit hV hva hvb hvc hXa hXb hXc h64 hks hen
  generalize depF xa = da at *
  generalize depF xb = db at *
  generalize depF xc = dc at *
  generalize nesF xa = ea at *
  generalize nesF xb = eb at *
  generalize nesF xc = ec at *
  have hs0 : (s : Int) ≤ 25 := by omega
  clear hs
  have hP := And.intro (Below.refl W.heap.size W) trivial
  go_enter Try.func7, Try.ntmps7
  go_wp2_with (first | (go_at_call 10; first | ((with_reducible refine (HLa.out _).mono ?_); rintro e wN ⟨rfl, hwN⟩; have hwN' := hwN.symm; subst hwN') | ((with_reducible refine (HLb.out _).mono ?_); rintro e wN ⟨rfl, hwN⟩; have hwN' := hwN.symm; subst hwN') | ((with_reducible refine (HLc.out _).mono ?_); rintro e wN ⟨rfl, hwN⟩; have hwN' := hwN.symm; subst hwN')) | (go_at_call 27; first | ((with_reducible refine (HVa.out _ hP.1).mono ?_); rintro e wN ⟨rfl, hbN⟩; replace hP := And.intro (hP.1.trans (hbN.mono hP.1.size)) (trivial)) | ((with_reducible refine (HVb.out _ hP.1).mono ?_); rintro e wN ⟨rfl, hbN⟩; replace hP := And.intro (hP.1.trans (hbN.mono hP.1.size)) (trivial)) | ((with_reducible refine (HVc.out _ hP.1).mono ?_); rintro e wN ⟨rfl, hbN⟩; replace hP := And.intro (hP.1.trans (hbN.mono hP.1.size)) (trivial))) | (go_at_call 29; refine (HMod.out _).mono ?_; rintro e wN ⟨rfl, hwN⟩; subst hwN) | (at_builtin; refine wpList_appT rfl _ _ rfl W.heap.size _ [(18 + (s : Int), 0)] 1 rfl (OwnT.lit _ W.heap.size [(18 + (s : Int), 0)] _ 1 rfl rfl hP.1.size (by unfold maxLen; simp)) aa ca xa na HNa.out rfl rfl (HXa.out.below (hP.1.alloc hP.1.size _)) HPa.out (by simp; have := HNa.out; omega) (by simp; have := hP.1.size; omega) ?_; intro ae ce wN hownN hgN; replace hP := And.intro ((hP.1.alloc hP.1.size _).grown hgN (by simp; have := hP.1.size; omega) (fun kk ee => by simp [Value.ownBlock] at ee; have := hP.1.size; omega)) hownN) | (at_builtin; refine wpList_appT rfl _ _ rfl W.heap.size _ ((18 + (s : Int), 0) :: xa) (1 + na) (by rw [List.length_cons, ← HNa.out]; omega) hP.2 ab cb xb nb HNb.out rfl rfl (HXb.out.below hP.1) HPb.out (by simp; have := HNa.out; have := HNb.out; omega) hP.1.size ?_; intro ae ce wN hownN hgN; replace hP := And.intro (hP.1.grown hgN hP.1.size (fun kk ee => own_lo3 hP.2 ee)) hownN) | (at_builtin; refine wpList_appT rfl _ _ rfl W.heap.size _ ((18 + (s : Int), 0) :: xa ++ xb) (1 + na + nb) (by rw [List.length_append, List.length_cons, ← HNa.out, ← HNb.out]; omega) hP.2 ac cc xc nc HNc.out rfl rfl (HXc.out.below hP.1) HPc.out (by simp; have := HNa.out; have := HNb.out; have := HNc.out; omega) hP.1.size ?_; intro ae ce wN hownN hgN; replace hP := And.intro (hP.1.grown hgN hP.1.size (fun kk ee => own_lo3 hP.2 ee)) hownN) | (go_at_call 18; first | ((with_reducible refine (HDa.out _ hP.1).mono ?_); rintro e wN ⟨rfl, hbN⟩; replace hP := And.intro (hP.1.trans (hbN.mono hP.1.size)) (OwnT.bel hP.2 hbN)) | ((with_reducible refine (HDb.out _ hP.1).mono ?_); rintro e wN ⟨rfl, hbN⟩; replace hP := And.intro (hP.1.trans (hbN.mono hP.1.size)) (OwnT.bel hP.2 hbN)) | ((with_reducible refine (HDc.out _ hP.1).mono ?_); rintro e wN ⟨rfl, hbN⟩; replace hP := And.intro (hP.1.trans (hbN.mono hP.1.size)) (OwnT.bel hP.2 hbN)) | ((with_reducible refine (HDe.out _ _ _ hP.2).mono ?_); rintro e wN ⟨rfl, hbN⟩; replace hP := And.intro (hP.1.trans (hbN.mono hP.1.size)) (OwnT.bel hP.2 hbN))) | (go_at_call 20; first | ((with_reducible refine (HEa.out _ hP.1).mono ?_); rintro e wN ⟨rfl, hbN⟩; replace hP := And.intro (hP.1.trans (hbN.mono hP.1.size)) (OwnT.bel hP.2 hbN)) | ((with_reducible refine (HEb.out _ hP.1).mono ?_); rintro e wN ⟨rfl, hbN⟩; replace hP := And.intro (hP.1.trans (hbN.mono hP.1.size)) (OwnT.bel hP.2 hbN)) | ((with_reducible refine (HEc.out _ hP.1).mono ?_); rintro e wN ⟨rfl, hbN⟩; replace hP := And.intro (hP.1.trans (hbN.mono hP.1.size)) (OwnT.bel hP.2 hbN)) | ((with_reducible refine (HEe.out _ _ _ hP.2).mono ?_); rintro e wN ⟨rfl, hbN⟩; replace hP := And.intro (hP.1.trans (hbN.mono hP.1.size)) (OwnT.bel hP.2 hbN))) | (go_at_call 13; refine (HAr.out _).mono ?_; rintro e wN ⟨rfl, hwN⟩; have hwN' := hwN.symm; subst hwN') | (go_at_call 30; refine (HAg.out _).mono ?_; rintro e wN ⟨rfl, hwN⟩; have hwN' := hwN.symm; subst hwN') | (go_at_call 11; refine (HAw.out _ hP.1).mono ?_; rintro e wN ⟨rfl, hbN⟩; replace hP := And.intro (hP.1.trans (hbN.mono hP.1.size)) (OwnT.bel hP.2 hbN)) | (go_at_call 14; refine (HFe.out _ _ _ hP.2).mono ?_; rintro e wN ⟨rfl, hbN⟩; replace hP := And.intro (hP.1.trans (hbN.mono hP.1.size)) (OwnT.bel hP.2 hbN)) | (go_at_call 26; refine (HWe.out _ _ _ hP.2).mono ?_; rintro e wN ⟨rfl, hbN⟩; replace hP := And.intro (hP.1.trans (hbN.mono hP.1.size)) (OwnT.bel hP.2 hbN)))
  all_goals go_ret
  all_goals exact ⟨by first | rfl | (simp; done) | (simp; omega), hP.1⟩
end Go.Proofs.Ytbcndmlhbdanaaa.lawTermGrows
