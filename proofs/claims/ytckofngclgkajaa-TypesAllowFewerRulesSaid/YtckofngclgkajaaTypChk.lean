/- What Check answers for a changed program. No program text in it. -/
import Derived.Test.YtckofngclgkajaaTypK6
namespace Go.Proofs.Ytckofngclgkajaa
set_option maxRecDepth 100000

theorem nsA_eq {ns : List ByteArray} {i : Nat} (h : i < ns.length) : nsA ns i = ns[i] := by
  unfold nsA
  rw [List.getD_eq_getElem?_getD, List.getElem?_eq_getElem h]
  rfl
theorem names_nodup {ns : List ByteArray} : namesF ns = true ↔ (∀ s ∈ ns, nameF s.data.toList = true) ∧ ns.Nodup := by
  rw [names_iff]
  unfold NameOk List.Nodup
  rw [List.pairwise_iff_getElem]
  constructor
  · intro h
    refine ⟨fun s hs => ?_, fun i j hi hj hij => ?_⟩
    · obtain ⟨i, hi, rfl⟩ := List.mem_iff_getElem.1 hs
      have := (h i hi).1
      rwa [nsA_eq hi] at this
    · have := (h j hj).2 i hij
      rwa [nsA_eq hi, nsA_eq hj] at this
  · rintro ⟨h1, h2⟩ i hi
    rw [nsA_eq hi]
    exact ⟨h1 _ (List.getElem_mem hi), fun k hk => by
      rw [nsA_eq (by omega : k < ns.length)]
      exact h2 k i (by omega) hi hk⟩
/-- Check answers OK -/
structure OkP (p : ProgV) : Prop where
  lim : 1 ≤ p.vars.length ∧ p.vars.length ≤ 6 ∧ p.rules.length ≤ 12
  name : nameF p.name.data.toList = true
  vnames : namesF (p.vars.map VarV.name) = true
  rnames : namesF (p.rules.map RuleV.name) = true
  nums : p.vars.all numbersF = true
  form : ∀ r ∈ p.rules, formedF r p.vars.length = true
  typ : ∀ r ∈ p.rules, typedF r (p.vars.map VarV.kind) = true
theorem ok_iff {p : ProgV} : checkF p = 0 ↔ OkP p := by
  unfold checkF
  constructor
  · intro h
    split at h
    · exact absurd h (by decide)
    rename_i h1
    split at h
    · exact absurd h (by decide)
    rename_i h2
    split at h
    · exact absurd h (by decide)
    rename_i h3
    split at h
    · exact absurd h (by decide)
    rename_i h4
    split at h
    · exact absurd h (by decide)
    rename_i h5
    have h2' : namedF p = true := by simpa using h2
    unfold namedF at h2'
    simp only [Bool.and_eq_true] at h2'
    exact ⟨Decidable.not_not.1 h1, h2'.1, h2'.2.1, h2'.2.2, Bool.of_not_eq_false h3, List.all_eq_true.1 (Bool.of_not_eq_false h4), List.all_eq_true.1 (Bool.of_not_eq_false h5)⟩
  · intro h
    have h2 : namedF p = true := by unfold namedF; rw [h.name, h.vnames, h.rnames]; rfl
    have h4 : (p.rules.all fun r => formedF r p.vars.length) = true := List.all_eq_true.2 h.form
    have h5 : (p.rules.all fun r => typedF r (p.vars.map VarV.kind)) = true := List.all_eq_true.2 h.typ
    rw [if_neg (fun hn => hn h.lim), h2, if_neg (by decide), h.nums, if_neg (by decide), h4, if_neg (by decide), h5, if_neg (by decide)]
/-- other rules in the place of a program's -/
def ProgV.withRules (p : ProgV) (a : Option Addr) (c : Nat) (rs : List RuleV) : ProgV := ⟨p.name, p.va, p.vc, p.vars, a, c, rs⟩
def ProgV.withVars (p : ProgV) (a : Option Addr) (c : Nat) (vs : List VarV) : ProgV := ⟨p.name, a, c, vs, p.ra, p.rc, p.rules⟩
theorem ok_fewer {p : ProgV} (h : OkP p) (a : Option Addr) (c : Nat) (rs : List RuleV) (hl : rs.length ≤ p.rules.length) (hm : ∀ r ∈ rs, r ∈ p.rules) (hn : (rs.map RuleV.name).Nodup) : OkP (p.withRules a c rs) := by
  refine ⟨⟨h.lim.1, h.lim.2.1, Nat.le_trans hl h.lim.2.2⟩, h.name, h.vnames, names_nodup.2 ⟨fun s hs => ?_, hn⟩, h.nums, fun r hr => h.form r (hm r hr), fun r hr => h.typ r (hm r hr)⟩
  obtain ⟨r, hr, rfl⟩ := List.mem_map.1 hs
  exact (names_nodup.1 h.rnames).1 _ (List.mem_map.2 ⟨r, hm r hr, rfl⟩)
theorem ok_without {p : ProgV} (h : OkP p) (a : Option Addr) (c : Nat) (i : Nat) : OkP (p.withRules a c (p.rules.take i ++ p.rules.drop (i + 1))) := by
  have e : p.rules.take i ++ p.rules.drop (i + 1) = p.rules.eraseIdx i := (List.eraseIdx_eq_take_drop_succ p.rules i).symm
  rw [e]
  have hs := List.eraseIdx_sublist p.rules i
  exact ok_fewer h a c _ hs.length_le (fun r hr => hs.subset hr) ((names_nodup.1 h.rnames).2.sublist (hs.map _))
theorem ok_swapped {p : ProgV} (h : OkP p) (a : Option Addr) (c : Nat) {i k : Nat} (hi : i < p.rules.length) (hk : k < p.rules.length) : OkP (p.withRules a c ((p.rules.set i p.rules[k]).set k p.rules[i])) := by
  have hp := List.set_set_perm hi hk
  exact ok_fewer h a c _ (Nat.le_of_eq hp.length_eq) (fun r hr => hp.mem_iff.1 hr) ((hp.map RuleV.name).nodup_iff.2 (names_nodup.1 h.rnames).2)
theorem refuse_rule {p : ProgV} (h : OkP p) (a : Option Addr) (c : Nat) {i : Nat} (hi : i < p.rules.length) (r : RuleV) (hn : r.name = p.rules[i].name) (hf : formedF r p.vars.length = false) : checkF (p.withRules a c (p.rules.set i r)) = 7 := by
  have e : (p.rules.set i r).map RuleV.name = p.rules.map RuleV.name := by
    rw [List.map_set, hn]
    refine List.ext_getElem (by simp) fun j h1 h2 => ?_
    by_cases hj : i = j
    · subst hj
      simp
    · simp [hj]
  have h2 : namedF (p.withRules a c (p.rules.set i r)) = true := by
    unfold namedF ProgV.withRules
    dsimp only
    rw [e, h.name, h.vnames, h.rnames]
    rfl
  have h4 : ((p.rules.set i r).all fun r => formedF r p.vars.length) = false := by
    rw [Bool.eq_false_iff]
    intro ht
    have := List.all_eq_true.1 ht r (List.mem_iff_getElem.2 ⟨i, by simpa using hi, by simp⟩)
    rw [hf] at this
    cases this
  unfold checkF
  rw [h2]
  unfold ProgV.withRules
  dsimp only
  rw [if_neg (fun hn => hn (by rw [List.length_set]; exact h.lim)), if_neg (by decide), h.nums, if_neg (by decide), if_pos h4]
theorem refuse_vars {p : ProgV} (h : OkP p) (a : Option Addr) (c : Nat) (h0 : 0 < p.vars.length) : checkF (p.withVars a c (p.vars ++ [p.vars[0]])) = if p.vars.length = 6 then 3 else 5 := by
  unfold checkF
  by_cases h6 : p.vars.length = 6
  · rw [if_pos h6]
    refine if_pos ?_
    unfold ProgV.withVars
    dsimp only
    rw [List.length_append, h6]
    simp
  · rw [if_neg h6]
    have h2 : namedF (p.withVars a c (p.vars ++ [p.vars[0]])) = false := by
      unfold namedF ProgV.withVars
      dsimp only
      have : namesF ((p.vars ++ [p.vars[0]]).map VarV.name) = false := by
        rw [Bool.eq_false_iff]
        intro ht
        have hd := (names_nodup.1 ht).2
        rw [List.map_append, List.nodup_append] at hd
        exact hd.2.2 _ (List.mem_map.2 ⟨p.vars[0], List.getElem_mem h0, rfl⟩) _ (by simp) rfl
      rw [this]
      simp
    rw [h2, if_neg, if_pos rfl]
    intro hn
    apply hn
    have := h.lim
    unfold ProgV.withVars
    dsimp only
    rw [List.length_append]
    simp
    omega
/-- a rule that assigns a variable twice -/
def RuleV.twice (r : RuleV) (a : Option Addr) (c : Nat) (s : SetV) : RuleV := ⟨r.name, r.ga, r.gc, r.guard, a, c, r.sets ++ [s]⟩
theorem formed_twice {r : RuleV} {n : Nat} (a : Option Addr) (c : Nat) (h0 : 0 < r.sets.length) : formedF (r.twice a c r.sets[0]) n = false := by
  rw [Bool.eq_false_iff]
  intro h
  have h1 := (formed_parts h).2.2.2 r.sets.length (by unfold RuleV.twice; simp)
  refine h1.2.2 0 h0 ?_
  rw [svA_eq (by unfold RuleV.twice; simp), svA_eq (by unfold RuleV.twice; simp)]
  unfold RuleV.twice
  simp [List.getElem_append_left h0]
end Go.Proofs.Ytckofngclgkajaa
