/- Other numbers in an expression leave its type as it is. No program in it. -/
import Derived.Test.YtckofngclgkajaaTypMath2
namespace Go.Proofs.Ytckofngclgkajaa
set_option maxRecDepth 100000

theorem eat_turn {F : Int × Int → Int × Int} (hF : ∀ t, (F t).1 = t.1) : ∀ (xs : List (Int × Int)) (w : Nat), eat (xs.map F) w = eat xs w
  | xs, 0 => by rw [eat_zero, eat_zero]
  | [], w + 1 => rfl
  | t :: ts, w + 1 => by
    rw [List.map_cons, eat_cons, eat_cons, hF, eat_turn hF ts]
theorem turn_dep {F : Int × Int → Int × Int} : ∀ x : Ex, (x.turn F).dep = x.dep
  | .leaf _ => rfl
  | .un _ a => by simp [Ex.turn, Ex.dep, turn_dep a]
  | .bi _ a b => by simp [Ex.turn, Ex.dep, turn_dep a, turn_dep b]
  | .cond _ c a b => by simp [Ex.turn, Ex.dep, turn_dep c, turn_dep a, turn_dep b]
theorem turn_nes {F : Int × Int → Int × Int} (hF : ∀ t, (F t).1 = t.1) : ∀ x : Ex, (x.turn F).nes = x.nes
  | .leaf t => by simp [Ex.turn, Ex.nes, aggN, hF]
  | .un t a => by simp [Ex.turn, Ex.nes, aggN, hF, turn_nes hF a]
  | .bi t a b => by simp [Ex.turn, Ex.nes, aggN, hF, turn_nes hF a, turn_nes hF b]
  | .cond t c a b => by simp [Ex.turn, Ex.nes, aggN, hF, turn_nes hF c, turn_nes hF a, turn_nes hF b]
/-- where the arguments stay right or wrong, an expression stays valid or not -/
theorem valid_turn {F : Int × Int → Int × Int} (hF : ∀ t, (F t).1 = t.1) {xs : List (Int × Int)} {u v : Int} (ha : (xs.map F).all (fun t => argB t u) = xs.all fun t => argB t v) : validE (xs.map F) u = validE xs v := by
  have ho : oneB (xs.map F) = oneB xs := by
    rw [Bool.eq_iff_iff, oneB_iff, oneB_iff, eat_turn hF, List.length_map]
  cases h : oneB xs with
  | false =>
    rw [h] at ho
    unfold validE
    rw [h, ho]
    simp
  | true =>
    obtain ⟨x, rfl, hw⟩ := one_tree h
    have h1 := ((x.turn F).exs (turn_wf hF x hw)).valid u
    rw [turn_flat, turn_dep, turn_nes hF, List.length_map, ha] at h1
    rw [h1, (x.exs hw).valid v]
/-- the terms of a list with other numbers -/
def numT (v : Int) (t : Int × Int) : Int × Int := if t.1 = 1 ∧ 0 ≤ t.2 ∧ t.2 ≤ 1073741824 then (1, v) else t
theorem numT_op (v : Int) (t : Int × Int) : (numT v t).1 = t.1 := by
  unfold numT
  split
  · rename_i h; exact h.1.symm
  · rfl
theorem numT_arg {v u : Int} (h0 : 0 ≤ v) (h1 : v ≤ 1073741824) (t : Int × Int) : argB (numT v t) u = argB t u := by
  unfold numT
  split
  · rename_i h
    unfold argB
    rw [if_pos rfl, if_pos h.1, decide_eq_true ⟨h0, h1⟩, decide_eq_true ⟨h.2.1, h.2.2⟩]
  · rfl
theorem numT_leaf (v : Int) (t : Int × Int) (ks : List Int) (b : Bool) : leafK (numT v t) ks b = leafK t ks b := by
  unfold numT
  split
  · rename_i h
    unfold leafK
    rw [h.1]
    simp
  · rfl
theorem of_num {xs : List (Int × Int)} {ks : List Int} {b : Bool} {k f v : Int} (h0 : 0 ≤ v) (h1 : v ≤ 1073741824) (h : OfSays xs ks b k f) : OfSays (xs.map (numT v)) ks b k f := by
  have hall : (xs.map (numT v)).all (fun t => argB t ks.length) = xs.all fun t => argB t ks.length := by
    rw [List.all_map]
    congr 1
    funext t
    exact numT_arg h0 h1 t
  have hv : validE (xs.map (numT v)) ks.length = validE xs ks.length := valid_turn (numT_op v) hall
  have hok : okT (xs.map (numT v)) ks = okT xs ks := by
    unfold okT
    rw [hv]
  rcases h with ⟨h, rfl, rfl⟩ | ⟨h, x, rfl, hw, ha, rfl, rfl⟩
  · exact .inl ⟨hok.trans h, rfl, rfl⟩
  · refine .inr ⟨hok.trans h, x.turn (numT v), turn_flat _ x, turn_wf (numT_op v) x hw, ?_, ?_⟩
    · unfold Ex.args
      rw [turn_flat, hall]
      exact ha
    · rw [turn_kind (numT_op v) x b (fun t _ b => numT_leaf v t ks b)]
      exact ⟨rfl, rfl⟩
end Go.Proofs.Ytckofngclgkajaa
