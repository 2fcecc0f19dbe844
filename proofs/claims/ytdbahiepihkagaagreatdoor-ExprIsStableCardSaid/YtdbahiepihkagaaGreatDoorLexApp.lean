/- Scans of a text with more behind it, of a part of a text, and of tokens with gaps of one's own between them. No program in sight. -/
import Derived.Test.YtdbahiepihkagaaGreatDoorExprSame
import Derived.Test.YtdbahiepihkagaaGreatDoorLexN
namespace Go.Proofs.YtdbahiepihkagaaGreatDoor
set_option maxRecDepth 100000

/-! ### Words -/
def kindW (w : Bytes) : Nat := match tokF w with
  | .inr t => t.kind
  | .inl _ => 0
def numW (w : Bytes) : Nat := match tokF w with
  | .inr t => t.num
  | .inl _ => 0
def Env.words (V : Env) : List Bytes := V.ts.map (·.word)
/-- each token is what its word is by itself -/
def Env.Fair (V : Env) : Prop := ∀ x ∈ V.ts, x.kind = kindW x.word ∧ x.num = numW x.word
theorem look_at {V : Env} {i : Nat} {w : Bytes} {r : List Bytes} (h : V.words.drop i = w :: r) : ∃ x, V.ts[i]? = some x ∧ x.word = w ∧ x ∈ V.ts := by
  have h1 : V.words[i]? = some w := by
    have : (V.words.drop i)[0]? = some w := by rw [h]; rfl
    rwa [List.getElem?_drop, Nat.add_zero] at this
  unfold Env.words at h1
  rw [List.getElem?_map] at h1
  cases hx : V.ts[i]? with
  | none => rw [hx] at h1; cases h1
  | some x =>
    rw [hx] at h1
    exact ⟨x, rfl, Option.some.inj h1, List.mem_of_getElem? hx⟩
theorem word_at {V : Env} {i p : Nat} {l : List Bytes} (h : V.words.drop i = l) : V.word ⟨i, 0, p⟩ = l.headD [] := by
  unfold Env.word
  rw [if_neg (by simp)]
  cases l with
  | nil =>
    have : V.ts.length ≤ i := by
      have := congrArg List.length h
      simp [Env.words] at this
      omega
    show ((V.ts[i]?).map (·.word)).getD [] = _
    rw [List.getElem?_eq_none this]
    rfl
  | cons w r =>
    obtain ⟨x, h1, h2, _⟩ := look_at h
    show ((V.ts[i]?).map (·.word)).getD [] = w
    rw [h1, ← h2]
    rfl
theorem kind_at {V : Env} (hV : V.Fair) {i p : Nat} {w : Bytes} {r : List Bytes} (h : V.words.drop i = w :: r) : V.kind ⟨i, 0, p⟩ = kindW w ∧ V.num ⟨i, 0, p⟩ = numW w := by
  obtain ⟨x, h1, h2, h3⟩ := look_at h
  obtain ⟨h4, h5⟩ := hV x h3
  unfold Env.kind Env.num
  rw [if_neg (by simp)]
  show ((V.ts[i]?).map (·.kind)).getD 0 = _ ∧ ((V.ts[i]?).map (·.num)).getD 0 = _
  rw [h1, ← h2, ← h4, ← h5]
  exact ⟨rfl, rfl⟩
theorem drop_word {V : Env} {i : Nat} {w : Bytes} {r : List Bytes} (h : V.words.drop i = w :: r) : V.words.drop (i + 1) = r := by
  rw [← List.drop_drop, h]
  rfl
theorem drop_words {V : Env} {i : Nat} {a r : List Bytes} (h : V.words.drop i = a ++ r) : V.words.drop (i + a.length) = r := by
  rw [← List.drop_drop, h, List.drop_left]
theorem bin_lvl (l : Bytes) : binF l = (0, 0) ∨ ((binF l).1 ≠ 0 ∧ 2 ≤ (binF l).2 ∧ (binF l).2 ≤ 6) := by
  unfold binF lookT
  cases h : signT.find? fun x => x.1 == l with
  | none => exact .inl rfl
  | some x =>
    have h1 := List.mem_of_find?_eq_some h
    have h2 : signT.all (fun x => decide (x.2.1 ≠ 0 ∧ 2 ≤ x.2.2 ∧ x.2.2 ≤ 6)) = true := by decide
    rw [List.all_eq_true] at h2
    exact .inr (by simpa using h2 x h1)

/-! ### Spelling -/
/-- words that are read at a level: 1 a choice, 2 to 6 binary, 7 unary, 8 primary -/
inductive Spell (ns : List Bytes) : Nat → List Bytes → List (Int × Int) → Prop
  | num {w : Bytes} (h : kindW w = 2) : Spell ns 8 [w] [(1, (numW w : Int))]
  | fact {w : Bytes} (hk : kindW w ≠ 2) (h : factF w ≠ 0) : Spell ns 8 [w] [(factF w, 0)]
  | agg {w : Bytes} {a : List Bytes} {e : List (Int × Int)} (hk : kindW w ≠ 2) (hf : factF w = 0) (h : aggW w ≠ 0) (ha : Spell ns 1 a e) : Spell ns 8 (w :: [40] :: (a ++ [[41]])) ((aggW w, 0) :: e)
  | brack {a : List Bytes} {e : List (Int × Int)} (ha : Spell ns 1 a e) : Spell ns 8 ([40] :: (a ++ [[41]])) e
  | here : Spell ns 8 [[113]] [(11, 0)]
  | field {w : Bytes} (h : fieldF w ≠ 0) : Spell ns 8 [[113], [46], w] [(fieldF w, 0)]
  | own {w : Bytes} {i : Nat} (hk : kindW w ≠ 2) (hf : factF w = 0) (ha : aggW w = 0) (h1 : w ≠ [40]) (h2 : w ≠ [113]) (hn : nameF w = true) (hi : idxN ns w = some i) : Spell ns 8 [w] [(5, (i : Int))]
  | near {w : Bytes} {i : Nat} (hf : fieldF w = 0) (hn : nameF w = true) (hi : idxN ns w = some i) : Spell ns 8 [[113], [46], w] [(12, (i : Int))]
  | neg {a : List Bytes} {e : List (Int × Int)} (ha : Spell ns 7 a e) : Spell ns 7 ([45] :: a) ((18, 0) :: e)
  | not {a : List Bytes} {e : List (Int × Int)} (ha : Spell ns 7 a e) : Spell ns 7 ([33] :: a) ((19, 0) :: e)
  | bin {lv : Nat} {w : Bytes} {a b : List Bytes} {x y : List (Int × Int)} (h2 : 2 ≤ lv) (h6 : lv ≤ 6) (h4 : lv ≠ 4) (hw : (binF w).2 = (lv : Int)) (ha : Spell ns lv a x) (hb : Spell ns (lv + 1) b y) : Spell ns lv (a ++ w :: b) (((binF w).1, 0) :: (x ++ y))
  | cmp {w : Bytes} {a b : List Bytes} {x y : List (Int × Int)} (hw : (binF w).2 = 4) (ha : Spell ns 5 a x) (hb : Spell ns 5 b y) : Spell ns 4 (a ++ w :: b) (((binF w).1, 0) :: (x ++ y))
  | cond {c a b : List Bytes} {x y z : List (Int × Int)} (hc : Spell ns 2 c x) (ha : Spell ns 1 a y) (hb : Spell ns 1 b z) : Spell ns 1 (c ++ [63] :: (a ++ [58] :: b)) ((43, 0) :: (x ++ (y ++ z)))
  | up {lv : Nat} {a : List Bytes} {e : List (Int × Int)} (h1 : 1 ≤ lv) (h7 : lv ≤ 7) (ha : Spell ns (lv + 1) a e) : Spell ns lv a e
theorem Spell.lift {ns : List Bytes} {a : List Bytes} {e : List (Int × Int)} : ∀ {k lv : Nat}, Spell ns k a e → 1 ≤ lv → lv ≤ k → k ≤ 8 → Spell ns lv a e := by
  intro k
  induction k with
  | zero => intro lv h h1 hk _; omega
  | succ k ih =>
    intro lv h h1 hk h8
    rcases Nat.lt_or_ge k lv with h2 | h2
    · obtain rfl : lv = k + 1 := by omega
      exact h
    · exact ih (.up (by omega) (by omega) h) h1 h2 (by omega)
/-- the word behind does not belong to it -/
def Stop (lv : Nat) (h : Bytes) : Prop := h ≠ [46] ∧ (lv = 1 → h ≠ [63]) ∧ (lv ≤ 6 → (binF h).2 < (lv : Int) ∨ ((binF h).2 = (lv : Int) ∧ lv ≠ 4))
theorem stop_close : Stop 1 [41] := by unfold Stop; decide
theorem stop_mark : Stop 2 [63] := by unfold Stop; decide
theorem stop_colon : Stop 1 [58] := by unfold Stop; decide
theorem stop_end : Stop 1 [] := by unfold Stop; decide
structure Reads (V : Env) (lv : Nat) (ws : List Bytes) (e : List (Int × Int)) (i p : Nat) : Prop where
  prim : lv = 8 → ∃ n, V.run n .prim ⟨i, 0, p⟩ = some (e, ⟨i + ws.length, 0, p⟩)
  unary : lv = 7 → ∃ n, V.run n .unary ⟨i, 0, p⟩ = some (e, ⟨i + ws.length, 0, p⟩)
  bin : 2 ≤ lv → lv ≤ 6 → ∀ m o, V.run m (.more lv e) ⟨i + ws.length, 0, p⟩ = some o → ∃ n, V.run n (.bin lv) ⟨i, 0, p⟩ = some o
  choice : lv = 1 → ∃ n, V.run n .choice ⟨i, 0, p⟩ = some (e, ⟨i + ws.length, 0, p⟩)
theorem more_stops {V : Env} {i p lv : Nat} {e : List (Int × Int)} {l : List Bytes} (h : V.words.drop i = l) (hl : (binF (l.headD [])).2 ≠ (lv : Int)) : V.run 1 (.more lv e) ⟨i, 0, p⟩ = some (e, ⟨i, 0, p⟩) := by
  unfold Env.run
  rw [if_pos (.inr (by rw [word_at h]; exact hl))]
/-- read as one side -/
theorem Reads.side {V : Env} {k : Nat} {ws rest : List Bytes} {e : List (Int × Int)} {i p : Nat} (R : Reads V k ws e i p) (h2 : 2 ≤ k) (h7 : k ≤ 7) (hd : V.words.drop i = ws ++ rest) (hs : (binF (rest.headD [])).2 < (k : Int)) : ∃ n, V.run n (.bin k) ⟨i, 0, p⟩ = some (e, ⟨i + ws.length, 0, p⟩) := by
  rcases Nat.lt_or_ge 6 k with h6 | h6
  · obtain ⟨n, hn⟩ := R.unary (by omega)
    refine ⟨n + 1, ?_⟩
    unfold Env.run
    rw [if_pos h6, hn]
  · exact R.bin h2 h6 1 _ (more_stops (drop_words hd) (by omega))
theorem prim_head {ns ws : List Bytes} {e : List (Int × Int)} (h : Spell ns 8 ws e) : ∃ w r, ws = w :: r ∧ w ≠ [45] ∧ w ≠ [33] := by
  generalize hk : 8 = k at h
  cases h with
  | num h => exact ⟨_, _, rfl, fun e => (by rw [e] at h; revert h; decide), fun e => (by rw [e] at h; revert h; decide)⟩
  | fact _ h => exact ⟨_, _, rfl, fun e => h (by rw [e]; decide), fun e => h (by rw [e]; decide)⟩
  | agg _ _ h _ => exact ⟨_, _, rfl, fun e => h (by rw [e]; decide), fun e => h (by rw [e]; decide)⟩
  | brack _ => exact ⟨_, _, rfl, by decide, by decide⟩
  | here => exact ⟨_, _, rfl, by decide, by decide⟩
  | field _ => exact ⟨_, _, rfl, by decide, by decide⟩
  | own _ _ _ _ _ h _ => exact ⟨_, _, rfl, fun e => (by rw [e] at h; revert h; decide), fun e => (by rw [e] at h; revert h; decide)⟩
  | near _ _ _ => exact ⟨_, _, rfl, by decide, by decide⟩
  | neg _ => cases hk
  | not _ => cases hk
  | bin _ h6 _ _ _ _ => omega
  | cmp _ _ _ => cases hk
  | cond _ _ _ => cases hk
  | up _ h7 _ => omega
theorem want_at {V : Env} {i p : Nat} {w : Bytes} {l : List Bytes} (h : V.words.drop i = w :: l) : V.want w ⟨i, 0, p⟩ = ⟨i + 1, 0, p⟩ := by
  unfold Env.want
  rw [word_at h]
  exact if_pos rfl
theorem var_at {V : Env} {i p k : Nat} {op : Int} {w : Bytes} {l : List Bytes} (h : V.words.drop i = w :: l) (hn : nameF w = true) (hi : idxN V.ns w = some k) : V.var op ⟨i, 0, p⟩ = ([(op, (k : Int))], ⟨i + 1, 0, p⟩) := by
  have hw : V.word ⟨i, 0, p⟩ = w := word_at h
  unfold Env.var
  rw [hw, if_neg (by rw [hn]; decide), hi]
  rfl
theorem spell_reads {V : Env} (hV : V.Fair) {lv : Nat} {ws : List Bytes} {e : List (Int × Int)} (h : Spell V.ns lv ws e) : ∀ (i p : Nat) (rest : List Bytes), V.words.drop i = ws ++ rest → Stop lv (rest.headD []) → Reads V lv ws e i p := by
  induction h with
  | @num w h =>
    intro i p rest hd hs
    refine ⟨fun _ => ⟨1, ?_⟩, fun h => by omega, fun _ h => by omega, fun h => by omega⟩
    obtain ⟨h1, h2⟩ := kind_at hV (p := p) hd
    unfold Env.run
    rw [h1, if_pos h, h2]
    rfl
  | @fact w hk h =>
    intro i p rest hd hs
    refine ⟨fun _ => ⟨1, ?_⟩, fun h => by omega, fun _ h => by omega, fun h => by omega⟩
    obtain ⟨h1, h2⟩ := kind_at hV (p := p) hd
    have hw : V.word ⟨i, 0, p⟩ = w := word_at hd
    unfold Env.run
    rw [h1, if_neg hk, hw, if_pos h]
    rfl
  | @agg w a e hk hf h ha ih =>
    intro i p rest hd hs
    refine ⟨fun _ => ?_, fun h => by omega, fun _ h => by omega, fun h => by omega⟩
    obtain ⟨h1, h2⟩ := kind_at hV (p := p) hd
    have hw : V.word ⟨i, 0, p⟩ = w := word_at hd
    have d1 : V.words.drop (i + 1) = [40] :: (a ++ ([41] :: rest)) := by
      rw [drop_word hd]
      simp
    have d2 := drop_word d1
    have d3 := drop_words d2
    obtain ⟨n, hn⟩ := (ih (i + 1 + 1) p _ d2 stop_close).choice rfl
    refine ⟨n + 1, ?_⟩
    unfold Env.run
    have ea : (⟨i, 0, p⟩ : St).adv = ⟨i + 1, 0, p⟩ := rfl
    rw [h1, if_neg hk, hw, if_neg (by omega), if_pos h, ea, want_at d1, hn, Option.bind_some]
    dsimp only
    rw [want_at d3]
    simp
    omega
  | @brack a e ha ih =>
    intro i p rest hd hs
    refine ⟨fun _ => ?_, fun h => by omega, fun _ h => by omega, fun h => by omega⟩
    obtain ⟨h1, h2⟩ := kind_at hV (p := p) hd
    have hw : V.word ⟨i, 0, p⟩ = [40] := word_at hd
    have d2 : V.words.drop (i + 1) = a ++ ([41] :: rest) := by
      rw [drop_word hd]
      simp
    have d3 := drop_words d2
    obtain ⟨n, hn⟩ := (ih (i + 1) p _ d2 stop_close).choice rfl
    refine ⟨n + 1, ?_⟩
    unfold Env.run
    have ea : (⟨i, 0, p⟩ : St).adv = ⟨i + 1, 0, p⟩ := rfl
    rw [h1, if_neg (by decide), hw, if_neg (by decide), if_neg (by decide), if_pos rfl, ea, hn, Option.bind_some]
    dsimp only
    rw [want_at d3]
    simp
    omega
  | here =>
    intro i p rest hd hs
    refine ⟨fun _ => ⟨1, ?_⟩, fun h => by omega, fun _ h => by omega, fun h => by omega⟩
    obtain ⟨h1, h2⟩ := kind_at hV (p := p) hd
    have hw : V.word ⟨i, 0, p⟩ = [113] := word_at hd
    have ea : (⟨i, 0, p⟩ : St).adv = ⟨i + 1, 0, p⟩ := rfl
    have hw2 : V.word ⟨i + 1, 0, p⟩ = rest.headD [] := word_at (drop_word hd)
    unfold Env.run
    rw [h1, if_neg (by decide), hw, if_neg (by decide), if_neg (by decide), if_neg (by decide), if_pos rfl, ea]
    unfold Env.near
    rw [hw2, if_neg hs.1]
    rfl
  | @field w h =>
    intro i p rest hd hs
    refine ⟨fun _ => ⟨1, ?_⟩, fun h => by omega, fun _ h => by omega, fun h => by omega⟩
    obtain ⟨h1, h2⟩ := kind_at hV (p := p) hd
    have hw : V.word ⟨i, 0, p⟩ = [113] := word_at hd
    have ea : (⟨i, 0, p⟩ : St).adv = ⟨i + 1, 0, p⟩ := rfl
    have ea2 : (⟨i + 1, 0, p⟩ : St).adv = ⟨i + 1 + 1, 0, p⟩ := rfl
    have d1 : V.words.drop (i + 1) = [46] :: w :: rest := drop_word hd
    have hw2 : V.word ⟨i + 1, 0, p⟩ = [46] := word_at d1
    have hw3 : V.word ⟨i + 1 + 1, 0, p⟩ = w := word_at (drop_word d1)
    unfold Env.run
    rw [h1, if_neg (by decide), hw, if_neg (by decide), if_neg (by decide), if_neg (by decide), if_pos rfl, ea]
    unfold Env.near
    rw [hw2, if_pos rfl, ea2, hw3, if_pos h]
    rfl
  | @own w k hk hf ha h1' h2' hn hi =>
    intro i p rest hd hs
    refine ⟨fun _ => ⟨1, ?_⟩, fun h => by omega, fun _ h => by omega, fun h => by omega⟩
    obtain ⟨h1, h2⟩ := kind_at hV (p := p) hd
    have hw : V.word ⟨i, 0, p⟩ = w := word_at hd
    unfold Env.run
    rw [h1, if_neg hk, hw, if_neg (by omega), if_neg (by omega), if_neg h1', if_neg h2', var_at hd hn hi]
    rfl
  | @near w k hf hn hi =>
    intro i p rest hd hs
    refine ⟨fun _ => ⟨1, ?_⟩, fun h => by omega, fun _ h => by omega, fun h => by omega⟩
    obtain ⟨h1, h2⟩ := kind_at hV (p := p) hd
    have hw : V.word ⟨i, 0, p⟩ = [113] := word_at hd
    have ea : (⟨i, 0, p⟩ : St).adv = ⟨i + 1, 0, p⟩ := rfl
    have ea2 : (⟨i + 1, 0, p⟩ : St).adv = ⟨i + 1 + 1, 0, p⟩ := rfl
    have d1 : V.words.drop (i + 1) = [46] :: w :: rest := drop_word hd
    have d2 : V.words.drop (i + 1 + 1) = w :: rest := drop_word d1
    have hw2 : V.word ⟨i + 1, 0, p⟩ = [46] := word_at d1
    have hw3 : V.word ⟨i + 1 + 1, 0, p⟩ = w := word_at d2
    unfold Env.run
    rw [h1, if_neg (by decide), hw, if_neg (by decide), if_neg (by decide), if_neg (by decide), if_pos rfl, ea]
    unfold Env.near
    rw [hw2, if_pos rfl, ea2, hw3, if_neg (by omega), var_at d2 hn hi]
    rfl
  | @neg a e ha ih =>
    intro i p rest hd hs
    refine ⟨fun h => by omega, fun _ => ?_, fun _ h => by omega, fun h => by omega⟩
    have hw : V.word ⟨i, 0, p⟩ = [45] := word_at hd
    obtain ⟨n, hn⟩ := (ih (i + 1) p rest (drop_word hd) hs).unary rfl
    refine ⟨n + 1, ?_⟩
    have ea : (⟨i, 0, p⟩ : St).adv = ⟨i + 1, 0, p⟩ := rfl
    unfold Env.run
    rw [hw, if_pos rfl, ea, hn, Option.bind_some]
    simp
    omega
  | @not a e ha ih =>
    intro i p rest hd hs
    refine ⟨fun h => by omega, fun _ => ?_, fun _ h => by omega, fun h => by omega⟩
    have hw : V.word ⟨i, 0, p⟩ = [33] := word_at hd
    obtain ⟨n, hn⟩ := (ih (i + 1) p rest (drop_word hd) hs).unary rfl
    refine ⟨n + 1, ?_⟩
    have ea : (⟨i, 0, p⟩ : St).adv = ⟨i + 1, 0, p⟩ := rfl
    unfold Env.run
    rw [hw, if_neg (by decide), if_pos rfl, ea, hn, Option.bind_some]
    simp
    omega
  | @bin lv w a b x y h2 h6 h4 hw ha hb iha ihb =>
    intro i p rest hd hs
    refine ⟨fun h => by omega, fun h => by omega, fun _ _ m o hm => ?_, fun h => by omega⟩
    have d0 : V.words.drop i = a ++ (w :: (b ++ rest)) := by rw [hd]; simp
    have d1 := drop_words d0
    have d2 := drop_word d1
    have hlow : (binF (rest.headD [])).2 < ((lv + 1 : Nat) : Int) := by
      rcases hs.2.2 h6 with h | ⟨h, _⟩ <;> omega
    have hw46 : w ≠ [46] := by
      rintro rfl
      have : (binF [46]).2 = 0 := by decide
      omega
    have hw63 : w ≠ [63] := by
      rintro rfl
      have : (binF [63]).2 = 0 := by decide
      omega
    have Ra := iha i p _ d0 ⟨hw46, fun _ => hw63, fun _ => .inr ⟨hw, h4⟩⟩
    have Rb := ihb (i + a.length + 1) p rest d2 ⟨hs.1, fun h => by omega, fun _ => .inl hlow⟩
    obtain ⟨n1, hn1⟩ := Rb.side (by omega) (by omega) d2 hlow
    have hww : V.word ⟨i + a.length, 0, p⟩ = w := word_at d1
    have ea : (⟨i + a.length, 0, p⟩ : St).adv = ⟨i + a.length + 1, 0, p⟩ := rfl
    have hop : (binF w).1 ≠ 0 := by
      rcases bin_lvl w with h | h
      · rw [h] at hw
        simp at hw
        omega
      · exact h.1
    apply Ra.bin h2 h6 (max n1 m + 1) o
    unfold Env.run
    rw [hww, if_neg (by rintro (h | h); exact hop h; exact h hw), ea, run_up hn1 (by omega), Option.bind_some, if_neg h4]
    refine run_up (n := m) ?_ (by omega)
    have e : (⟨i + a.length + 1 + b.length, 0, p⟩ : St) = ⟨i + (a ++ w :: b).length, 0, p⟩ := by
      congr 1
      simp
      omega
    dsimp only
    rw [e]
    exact hm
  | @cmp w a b x y hw ha hb iha ihb =>
    intro i p rest hd hs
    refine ⟨fun h => by omega, fun h => by omega, fun _ _ m o hm => ?_, fun h => by omega⟩
    have d0 : V.words.drop i = a ++ (w :: (b ++ rest)) := by rw [hd]; simp
    have d1 := drop_words d0
    have d2 := drop_word d1
    have hlow : (binF (rest.headD [])).2 < 4 := by
      rcases hs.2.2 (by omega) with h | ⟨_, h⟩
      · exact h
      · exact absurd rfl h
    have hw46 : w ≠ [46] := by
      rintro rfl
      revert hw
      decide
    have hw63 : w ≠ [63] := by
      rintro rfl
      revert hw
      decide
    have Ra := iha i p _ d0 ⟨hw46, fun _ => hw63, fun _ => .inl (by show (binF w).2 < 5; omega)⟩
    have Rb := ihb (i + a.length + 1) p rest d2 ⟨hs.1, fun h => by omega, fun _ => .inl (by show (binF (rest.headD [])).2 < 5; omega)⟩
    obtain ⟨n0, hn0⟩ := Ra.side (by omega) (by omega) d0 (by show (binF w).2 < 5; omega)
    obtain ⟨n1, hn1⟩ := Rb.side (by omega) (by omega) d2 (by show (binF (rest.headD [])).2 < 5; omega)
    have hww : V.word ⟨i + a.length, 0, p⟩ = w := word_at d1
    have ea : (⟨i + a.length, 0, p⟩ : St).adv = ⟨i + a.length + 1, 0, p⟩ := rfl
    have hop : (binF w).1 ≠ 0 := by
      rcases bin_lvl w with h | h
      · rw [h] at hw
        simp at hw
      · exact h.1
    have hend := more_stops (V := V) (p := p) (lv := 4) (e := ((binF w).1, 0) :: (x ++ y)) (drop_words hd) (by show (binF (rest.headD [])).2 ≠ 4; omega)
    have ho := run_one hend hm
    subst ho
    refine ⟨max n0 n1 + 1 + 1, ?_⟩
    unfold Env.run
    rw [if_neg (by omega), run_up hn0 (by omega), Option.bind_some]
    unfold Env.run
    dsimp only
    rw [hww, if_neg (by rintro (h | h); exact hop h; exact h hw), ea, run_up hn1 (by omega), Option.bind_some, if_pos rfl]
    simp
    omega
  | @cond c a b x y z hc ha hb ihc iha ihb =>
    intro i p rest hd hs
    refine ⟨fun h => by omega, fun h => by omega, fun h => by omega, fun _ => ?_⟩
    have d0 : V.words.drop i = c ++ ([63] :: (a ++ ([58] :: (b ++ rest)))) := by rw [hd]; simp
    have d1 := drop_words d0
    have d2 := drop_word d1
    have d3 := drop_words d2
    have d4 := drop_word d3
    obtain ⟨n0, hn0⟩ := (ihc i p _ d0 stop_mark).side (by omega) (by omega) d0 (show (binF [63]).2 < 2 by decide)
    obtain ⟨n1, hn1⟩ := (iha _ p _ d2 stop_colon).choice rfl
    obtain ⟨n2, hn2⟩ := (ihb _ p _ d4 hs).choice rfl
    have hww : V.word ⟨i + c.length, 0, p⟩ = [63] := word_at d1
    have ea : (⟨i + c.length, 0, p⟩ : St).adv = ⟨i + c.length + 1, 0, p⟩ := rfl
    refine ⟨max n0 (max n1 n2) + 1, ?_⟩
    unfold Env.run
    rw [run_up hn0 (by omega), Option.bind_some]
    dsimp only
    rw [hww, if_pos rfl, ea, run_up hn1 (by omega), Option.bind_some]
    dsimp only
    rw [want_at d3, run_up hn2 (by omega), Option.bind_some]
    simp
    omega
  | @up lv a e h1 h7 ha ih =>
    intro i p rest hd hs
    have hstop : Stop (lv + 1) (rest.headD []) := ⟨hs.1, fun h => by omega, fun h => by
      rcases hs.2.2 (by omega) with h | ⟨h, _⟩ <;> exact .inl (by omega)⟩
    have R := ih i p rest hd hstop
    refine ⟨fun h => by omega, fun h => ?_, fun _ _ m o hm => ?_, fun h => ?_⟩
    · obtain ⟨n, hn⟩ := R.prim (by omega)
      obtain ⟨w, r, hwr, hw1, hw2⟩ := prim_head (by rw [h] at ha; exact ha)
      have hw : V.word ⟨i, 0, p⟩ = w := by
        rw [hwr] at hd
        exact word_at hd
      refine ⟨n + 1, ?_⟩
      unfold Env.run
      rw [hw, if_neg hw1, if_neg hw2, hn]
    · have hlow : (binF (rest.headD [])).2 < ((lv + 1 : Nat) : Int) := by
        rcases hs.2.2 (by omega) with h | ⟨h, _⟩ <;> omega
      obtain ⟨n, hn⟩ := R.side (by omega) (by omega) hd hlow
      refine ⟨max n m + 1, ?_⟩
      unfold Env.run
      rw [if_neg (by omega), run_up hn (by omega), Option.bind_some]
      exact run_up hm (by omega)
    · subst h
      have hz : (binF (rest.headD [])).2 < 2 := by
        rcases hs.2.2 (by omega) with h | ⟨h, _⟩ <;> omega
      obtain ⟨n, hn⟩ := R.side (by omega) (by omega) hd hz
      refine ⟨n + 1, ?_⟩
      have hww : V.word ⟨i + a.length, 0, p⟩ = rest.headD [] := word_at (drop_words hd)
      unfold Env.run
      rw [hn, Option.bind_some]
      dsimp only
      rw [hww, if_neg (hs.2.1 rfl)]
/-- words that spell an expression, read whole -/
theorem spell_out {V : Env} (hV : V.Fair) {ws : List Bytes} {e : List (Int × Int)} (h : Spell V.ns 1 ws e) (hw : V.words = ws) : V.read .choice ⟨0, 0, 0⟩ = (e, ⟨ws.length, 0, 0⟩) := by
  obtain ⟨n, hn⟩ := (spell_reads hV h 0 0 [] (by rw [List.drop_zero, List.append_nil, hw]) stop_end).choice rfl
  rw [Nat.zero_add] at hn
  exact read_eq hn
end Go.Proofs.YtdbahiepihkagaaGreatDoor
namespace Go.Proofs.YtdbahiepihkagaaGreatDoor
set_option maxRecDepth 100000

/-- the place behind the token before the k-th one -/
def prevE (i : Nat) (ts : List Tok) : Nat → Nat
  | 0 => i
  | k + 1 => (tkA ts k).end_
theorem prevE_cons (i : Nat) (x : Tok) (ts : List Tok) (k : Nat) : prevE i (x :: ts) (k + 1) = prevE x.end_ ts k := by
  cases k <;> rfl
def nextG (L : Bytes) (p : Nat) : Nat := p + gapF false (L.drop p)
theorem Run.place {L : Bytes} {i : Nat} {l : Bytes} {ts : List Tok} {j : Nat} {r : Bytes} (h : Run i l ts j r) : l = L.drop i →
    (∀ k, k < ts.length → ∃ t, tokF (L.drop (nextG L (prevE i ts k))) = .inr t ∧ tkA ts k = tokOf (nextG L (prevE i ts k)) t) ∧ nextG L (prevE i ts ts.length) = j := by
  induction h with
  | nil i l =>
    rintro rfl
    exact ⟨fun k hk => absurd hk (by simp), rfl⟩
  | @cons i l t ts j r h hr ih =>
    rintro rfl
    have ih2 := ih (by rw [List.drop_drop, Nat.add_assoc])
    obtain ⟨ih3, ih4⟩ := ih2
    have e0 : i + gapF false (L.drop i) = nextG L i := rfl
    rw [e0] at *
    refine ⟨fun k hk => ?_, ?_⟩
    · cases k with
      | zero =>
        refine ⟨t, ?_, rfl⟩
        rw [List.drop_drop] at h
        exact h
      | succ k =>
        rw [prevE_cons]
        exact ih3 k (by simpa using hk)
    · rw [List.length_cons, prevE_cons]
      exact ih4
/-- the k-th token of a text without errors -/
structure Stands (L : Bytes) (ts : List Tok) (k : Nat) : Prop where
  at_ : (tkA ts k).at_ = nextG L (prevE 0 ts k)
  lt : (tkA ts k).at_ < (tkA ts k).end_
  le : (tkA ts k).end_ ≤ L.length
  tok : tokF (L.drop (tkA ts k).at_) = .inr ⟨(tkA ts k).kind, (tkA ts k).end_ - (tkA ts k).at_, (tkA ts k).num⟩
theorem scan_run {L : Bytes} {ts : List Tok} (h : scanB L = .inr ts) : Run 0 L ts L.length [] ∧ ts.length ≤ 4096 ∧ L.length ≤ 16384 := by
  unfold scanB at h
  split at h
  · cases h
  · have := scan_ok L.length (Nat.le_refl _) (by omega) h
    simp at this
    exact ⟨this.1, this.2, by omega⟩
theorem stands {L : Bytes} {ts : List Tok} (h : scanB L = .inr ts) {k : Nat} (hk : k < ts.length) : Stands L ts k := by
  obtain ⟨h1, _, _⟩ := scan_run h
  obtain ⟨h2, _⟩ := h1.place (L := L) rfl
  obtain ⟨t, h3, h4⟩ := h2 k hk
  have h5 := tok_len h3
  simp at h5
  rw [← show (tkA ts k).at_ = nextG L (prevE 0 ts k) by rw [h4]; rfl] at h3 h5
  have e : (tkA ts k).end_ = (tkA ts k).at_ + t.len := by rw [h4]; rfl
  refine ⟨by rw [h4]; rfl, by omega, by omega, ?_⟩
  rw [h3, e, Nat.add_sub_cancel_left]
  rw [h4]
  rfl
theorem ends {L : Bytes} {ts : List Tok} (h : scanB L = .inr ts) : nextG L (prevE 0 ts ts.length) = L.length := by
  obtain ⟨h1, _, _⟩ := scan_run h
  exact (h1.place (L := L) rfl).2
theorem prev_le {L : Bytes} {ts : List Tok} (h : scanB L = .inr ts) {k : Nat} (hk : k ≤ ts.length) : prevE 0 ts k ≤ L.length := by
  cases k with
  | zero => exact Nat.zero_le _
  | succ k => exact (stands h (k := k) (by omega)).le

/-! ### By themselves -/
theorem gap_alone {L : Bytes} {p : Nat} (hL : L.length ≤ 16384) : scanB ((L.drop p).take (nextG L p - p)) = .inr [] := by
  have e : nextG L p - p = gapF false (L.drop p) := by unfold nextG; omega
  have hle := gap_le false (L.drop p)
  simp at hle
  rw [e]
  unfold scanB
  rw [if_neg (by simp; omega), scanG_step, gap_take, Nat.min_self, if_neg (by simp; omega)]
theorem tok_alone {l : Bytes} {t : Tk} (h : tokF l = .inr t) (hl : l.length ≤ 16384) : scanB (l.take t.len) = .inr [⟨t.kind, 0, t.len, t.num⟩] := by
  have h1 := tok_take h (Nat.le_refl _)
  have h2 := tok_len h
  obtain ⟨x, r, e, hx1, hx2⟩ := tok_head h1
  have hg : gapF false (l.take t.len) = 0 := by rw [e]; exact gap_none hx1 hx2
  unfold scanB
  rw [if_neg (by simp; omega), scanG_R, hg, List.drop_zero, scanR_tok h1 (by decide), List.drop_of_length_le (by simp; omega), scanG_step]
  simp [gapF, andThen, tokOf]

/-! ### Numbers -/
theorem bad_list {x : UInt8} {r : Bytes} (hd : isDgt x = true) : badF ((x :: r).take (runF isDgt (x :: r))) = ((x == 48 && decide (1 < runF isDgt (x :: r))) || decide (1073741824 < valF ((x :: r).take (runF isDgt (x :: r))))) := by
  have h1 : runF isDgt (x :: r) = runF isDgt r + 1 := by rw [runF, if_pos hd]
  have h2 := run_le isDgt r
  unfold badF
  congr 2
  · rw [h1, List.take_succ_cons]
    rfl
  · rw [h1, List.take_succ_cons, List.length_cons, List.length_take, Nat.min_eq_left h2]
theorem tok_kind {l : Bytes} {t : Tk} (h : tokF l = .inr t) : (t.kind = 2 ∧ (∀ b ∈ l.take t.len, isDgt b = true) ∧ t.len ≤ 10 ∧ t.num = valF (l.take t.len)) ∨ (t.kind ≠ 2 ∧ t.num = 0) := by
  cases l with
  | nil => cases h
  | cons x r =>
    have hl := tok_len h
    unfold tokF at h
    dsimp only at h
    split at h
    · split at h
      · cases h
      · injection h with h
        subst h
        exact .inr ⟨by simp, rfl⟩
    · split at h
      · rename_i hd
        split at h
        · cases h
        · rename_i h1
          injection h with h
          subst h
          dsimp only at hl ⊢
          have hall := run_all isDgt (x :: r)
          refine .inl ⟨rfl, hall, ?_, rfl⟩
          rcases Nat.lt_or_ge 10 (runF isDgt (x :: r)) with h2 | h2
          · exfalso
            have h3 := bad_long (l := (x :: r).take (runF isDgt (x :: r))) (by rw [List.length_take]; omega) hall
            rw [bad_list hd] at h3
            exact h1 h3
          · exact h2
      · split at h
        · cases h
        · injection h with h
          subst h
          exact .inr ⟨by simp, rfl⟩
end Go.Proofs.YtdbahiepihkagaaGreatDoor
namespace Go.Proofs.YtdbahiepihkagaaGreatDoor
set_option maxRecDepth 100000

theorem Run.more {b : UInt8} (hb : isSep b = true) (m : Bytes) {i : Nat} {l : Bytes} {ts : List Tok} {j : Nat} {r : Bytes} (h : Run i l ts j r) : ∃ j' r', Run i (l ++ b :: m) ts j' r' ∧ (r ≠ [] → j' = j ∧ r' = r ++ b :: m) := by
  induction h with
  | nil i l =>
    refine ⟨_, _, Run.nil i (l ++ b :: m), fun hr => ?_⟩
    have hg : gapF false l < l.length := by
      rcases Nat.lt_or_ge (gapF false l) l.length with h | h
      · exact h
      · exact absurd (List.drop_eq_nil_of_le h) hr
    rw [gap_app false l _ hg, List.drop_append_of_le_length (by omega)]
    exact ⟨rfl, rfl⟩
  | @cons i l t ts j r h hr ih =>
    have htl := tok_len h
    simp at htl
    have hg : gapF false l < l.length := by omega
    have hne : l.drop (gapF false l) ≠ [] := by
      intro e
      rw [e] at h
      cases h
    obtain ⟨j', r', h1, h2⟩ := ih
    refine ⟨j', r', ?_, h2⟩
    have e := gap_app false l (b :: m) hg
    have h3 : tokF ((l ++ b :: m).drop (gapF false (l ++ b :: m))) = .inr t := by
      rw [e, List.drop_append_of_le_length (by omega), tok_app hne hb]
      exact h
    have h4 := Run.cons (i := i) (ts := ts) (j := j') (r := r') h3 (by
      rw [e, List.drop_append_of_le_length (by omega)]
      exact h1)
    rw [e] at h4
    exact h4
theorem Run.part {i : Nat} {l : Bytes} {ts : List Tok} {j : Nat} {r : Bytes} (h : Run i l ts j r) : Run i (l.take (j - i)) ts j [] := by
  induction h with
  | nil i l =>
    rw [Nat.add_sub_cancel_left]
    have h := Run.nil i (l.take (gapF false l))
    rw [gap_take, Nat.min_self, List.drop_of_length_le (by rw [List.length_take]; omega)] at h
    exact h
  | @cons i l t ts j r h hr ih =>
    have htl := tok_len h
    simp at htl
    have hsz := hr.sizes
    have hij : i + gapF false l + t.len ≤ j := hsz.2.2.2.1
    have e : gapF false (l.take (j - i)) = gapF false l := by rw [gap_take]; omega
    have h3 : tokF ((l.take (j - i)).drop (gapF false (l.take (j - i)))) = .inr t := by
      rw [e, List.drop_take]
      exact tok_take h (by omega)
    have h4 := Run.cons (i := i) (ts := ts) (j := j) (r := []) h3 (by
      rw [e, List.drop_take, show j - i - (gapF false l + t.len) = j - (i + gapF false l + t.len) by omega]
      exact ih)
    rw [e] at h4
    exact h4
theorem run_ok {l : Bytes} {ts : List Tok} {j : Nat} (h : Run 0 l ts j []) (h4 : ts.length ≤ 4096) (hl : l.length ≤ 16384) : scanB l = .inr ts := by
  unfold scanB
  rw [if_neg (by omega), h.scan (by omega)]
  simp [scanR, andThen]
theorem scan_more_ok {l : Bytes} {ts : List Tok} {b : UInt8} {m : Bytes} (h : scanB l = .inr ts) (hb : isSep b = true) (hl : (l ++ b :: m).length ≤ 16384) :
    (∃ x, scanB (l ++ b :: m) = .inl x) ∨ ∃ us, scanB (l ++ b :: m) = .inr (ts ++ us) := by
  obtain ⟨h1, h2, h3⟩ := scan_run h
  obtain ⟨j', r', h4, _⟩ := h1.more hb m
  have h5 := h4.scan (k := 0) (by omega)
  unfold scanB
  rw [if_neg (by omega), h5]
  cases scanR (0 + ts.length) j' r' with
  | inl x => exact .inl ⟨x, rfl⟩
  | inr us => exact .inr ⟨us, rfl⟩
theorem scan_bad_run {l : Bytes} {p f : Nat} (h : scanB l = .inl (p, f)) (hl : l.length ≤ 16384) : ∃ ts r, Run 0 l ts p r ∧ r ≠ [] ∧ ((ts.length = 4096 ∧ f = 3) ∨ (ts.length < 4096 ∧ tokF r = .inl f)) := by
  unfold scanB at h
  rw [if_neg (by omega)] at h
  have := scan_err l.length (Nat.le_refl _) (by omega) h
  simpa using this
theorem scan_more_bad {l : Bytes} {p f : Nat} {b : UInt8} {m : Bytes} (h : scanB l = .inl (p, f)) (hb : isSep b = true) (hl : (l ++ b :: m).length ≤ 16384) :
    p < l.length ∧ (∃ ts, scanB (l.take p) = .inr ts) ∧ scanB (l ++ b :: m) = .inl (p, f) := by
  have hl2 : l.length ≤ 16384 := by rw [List.length_append] at hl; omega
  obtain ⟨ts, r, h1, h2, h3⟩ := scan_bad_run h hl2
  have hsz := h1.sizes
  have hpos := List.length_pos_iff.2 h2
  have hts : ts.length ≤ 4096 := by rcases h3 with h3 | h3 <;> omega
  refine ⟨by omega, ⟨ts, ?_⟩, ?_⟩
  · have h4 := h1.part
    rw [Nat.sub_zero] at h4
    exact run_ok h4 hts (by simp; omega)
  · obtain ⟨j', r', h4, h5⟩ := h1.more hb m
    obtain ⟨rfl, rfl⟩ := h5 h2
    have h6 := h4.scan (k := 0) (by omega)
    unfold scanB
    rw [if_neg (by omega), h6]
    unfold scanR
    rw [if_neg (by simp), Nat.zero_add]
    rcases h3 with ⟨h3, rfl⟩ | ⟨h3, h7⟩
    · rw [if_pos h3]
      rfl
    · rw [if_neg (by omega), tok_app h2 hb, h7]
      rfl

/-! ### Tokens with gaps of one's own -/
/-- a gap that is closed: what follows is no part of it unless it is one -/
def Closed (g : Bytes) : Prop := ∀ m, gapF false (g ++ m) = g.length + gapF false m
theorem closed_nil : Closed [] := fun m => by simp
theorem closed_bl {x : UInt8} (h : isBl x = true) {g : Bytes} (hg : Closed g) : Closed (x :: g) := fun m => by
  have e : (x == 35) = false := by
    simp [isBl] at h
    rcases h with ((rfl | rfl) | rfl) | rfl <;> rfl
  rw [List.cons_append, gapF]
  simp only [e, h, Bool.false_and, Bool.or_false, Bool.or_true, if_true]
  rw [hg m]
  simp
  omega
theorem closed_com : ∀ (c : Bytes) {g : Bytes}, (10 : UInt8) ∉ c → Closed g → ∀ m, gapF true (c ++ 10 :: g ++ m) = (c ++ 10 :: g).length + gapF false m
  | [], g, _, hg, m => by
    rw [List.nil_append, List.cons_append, gapF]
    have e : ((10 : UInt8) == 35 || (true && (10 : UInt8) != 10)) = false := by decide
    have e2 : isBl 10 = true := by decide
    rw [e, e2, if_pos (by rfl), hg m]
    simp
    omega
  | x :: c, g, hc, hg, m => by
    have hx : x ≠ 10 := fun e => hc (by simp [e])
    have ih := closed_com c (g := g) (fun h => hc (by simp [h])) hg m
    rw [List.cons_append, List.cons_append, gapF]
    have e : (x == 35 || (true && x != 10)) = true := by simp [hx]
    rw [e, if_pos (by simp), ih]
    simp
    omega
theorem closed_hash (c : Bytes) {g : Bytes} (hc : (10 : UInt8) ∉ c) (hg : Closed g) : Closed (35 :: (c ++ 10 :: g)) := fun m => by
  rw [List.cons_append, gapF]
  have e : ((35 : UInt8) == 35 || (false && (35 : UInt8) != 10)) = true := by decide
  rw [e, if_pos (by simp), closed_com c hc hg m]
  simp
  omega
/-- a token's bytes, the token, and what stands behind it -/
structure Piece where
  tb : Bytes
  tk : Tk
  sp : Bytes
def Piece.Good (x : Piece) : Prop := tokF x.tb = .inr x.tk ∧ x.tk.len = x.tb.length ∧ Closed x.sp ∧ ∃ b r, x.sp = b :: r ∧ isSep b = true
def textOf : List Piece → Bytes
  | [] => []
  | x :: q => x.tb ++ x.sp ++ textOf q
def layOf (i : Nat) : List Piece → List Tok
  | [] => []
  | x :: q => tokOf i x.tk :: layOf (i + x.tb.length + x.sp.length) q
theorem textOf_app (p q : List Piece) : textOf (p ++ q) = textOf p ++ textOf q := by
  induction p with
  | nil => rfl
  | cons x p ih =>
    show x.tb ++ x.sp ++ textOf (p ++ q) = x.tb ++ x.sp ++ textOf p ++ textOf q
    rw [ih]
    simp
theorem lay_run : ∀ (q : List Piece), (∀ x ∈ q, x.Good) → ∀ (i : Nat) (g : Bytes), Closed g → Run i (g ++ textOf q) (layOf (i + g.length) q) (i + g.length + (textOf q).length) []
  | [], _, i, g, hg => by
    have h := Run.nil i (g ++ textOf [])
    have e : gapF false (g ++ textOf []) = g.length := by rw [hg]; simp [textOf, gapF]
    rw [e] at h
    simp [textOf] at h ⊢
    exact h
  | x :: q, hq, i, g, hg => by
    obtain ⟨h1, h2, h3, b, r, h4, h5⟩ := hq x (by simp)
    have hlen := tok_len h1
    obtain ⟨y, tr, e1, e2, e3⟩ := tok_head h1
    have hgap : gapF false (g ++ textOf (x :: q)) = g.length := by
      rw [hg]
      show g.length + gapF false (x.tb ++ x.sp ++ textOf q) = g.length
      rw [e1, List.cons_append, List.cons_append, gap_none e2 e3]
      rfl
    have hne : x.tb ≠ [] := by rw [e1]; simp
    have htok : tokF ((g ++ textOf (x :: q)).drop (gapF false (g ++ textOf (x :: q)))) = .inr x.tk := by
      rw [hgap, List.drop_left]
      show tokF (x.tb ++ x.sp ++ textOf q) = .inr x.tk
      rw [List.append_assoc, h4, List.cons_append, tok_app hne h5]
      exact h1
    have ih := lay_run q (fun z hz => hq z (by simp [hz])) (i + g.length + x.tb.length) x.sp h3
    have hrest : (g ++ textOf (x :: q)).drop (gapF false (g ++ textOf (x :: q)) + x.tk.len) = x.sp ++ textOf q := by
      rw [hgap, h2, ← List.drop_drop, List.drop_left]
      show (x.tb ++ x.sp ++ textOf q).drop x.tb.length = _
      rw [List.append_assoc, List.drop_left]
    have h := Run.cons (i := i) htok (ts := layOf (i + g.length + x.tb.length + x.sp.length) q) (j := i + g.length + x.tb.length + x.sp.length + (textOf q).length) (r := []) (by
      rw [hrest, hgap, h2]
      exact ih)
    rw [hgap] at h
    have e : i + g.length + (textOf (x :: q)).length = i + g.length + x.tb.length + x.sp.length + (textOf q).length := by
      show _ + (x.tb ++ x.sp ++ textOf q).length = _
      simp
      omega
    rw [e]
    exact h
theorem layOf_len : ∀ (q : List Piece) (i : Nat), (layOf i q).length = q.length
  | [], _ => rfl
  | x :: q, i => by
    show (layOf _ q).length + 1 = q.length + 1
    rw [layOf_len q]
theorem layOf_at : ∀ (q : List Piece) (i k : Nat) (x : Piece), q[k]? = some x → tkA (layOf i q) k = tokOf (i + (textOf (q.take k)).length) x.tk
  | [], _, _, _, h => by simp at h
  | y :: q, i, 0, x, h => by
    obtain rfl : y = x := by simpa using h
    rfl
  | y :: q, i, k + 1, x, h => by
    have ih := layOf_at q (i + y.tb.length + y.sp.length) k x (by simpa using h)
    show tkA (layOf (i + y.tb.length + y.sp.length) q) k = _
    rw [ih, List.take_succ_cons]
    show _ = tokOf (i + (y.tb ++ y.sp ++ textOf (q.take k)).length) x.tk
    congr 1
    simp
    omega
/-- the bytes of the k-th piece in the text of all -/
theorem textOf_part {q : List Piece} {k : Nat} {x : Piece} (h : q[k]? = some x) : ((textOf q).drop (textOf (q.take k)).length).take x.tb.length = x.tb := by
  have hk : k < q.length := by
    rcases Nat.lt_or_ge k q.length with h1 | h1
    · exact h1
    · rw [List.getElem?_eq_none h1] at h; cases h
  have e : q = q.take k ++ (x :: q.drop (k + 1)) := by
    have h2 : q[k] = x := by
      rw [List.getElem?_eq_getElem hk] at h
      simpa using h
    rw [← h2, ← List.drop_eq_getElem_cons hk, List.take_append_drop]
  have e2 : textOf q = textOf (q.take k) ++ (x.tb ++ x.sp ++ textOf (q.drop (k + 1))) := by
    conv => lhs; rw [e, textOf_app]
    rfl
  rw [e2, List.drop_left, List.append_assoc, List.take_left]
end Go.Proofs.YtdbahiepihkagaaGreatDoor
