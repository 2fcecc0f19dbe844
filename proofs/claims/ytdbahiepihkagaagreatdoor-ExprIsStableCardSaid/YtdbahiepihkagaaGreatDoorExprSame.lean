/- What is read hangs on no token behind the place where reading ends; where an error stands. No program in it. -/
import Derived.Test.YtdbahiepihkagaaGreatDoorLexN
import Derived.Test.YtdbahiepihkagaaGreatDoorTermMost
namespace Go.Proofs.YtdbahiepihkagaaGreatDoor
set_option maxRecDepth 100000

/-! ### Words -/
def lookT (T : List (Bytes × Int × Int)) (l : Bytes) : Int × Int := ((T.find? fun x => x.1 == l).map (·.2)).getD (0, 0)
/-- the operation of a binary sign, and its level -/
def signT : List (Bytes × Int × Int) := [([124, 124], 42, 2), ([38, 38], 41, 3), ([61, 61], 35, 4), ([33, 61], 36, 4), ([60], 37, 4), ([60, 61], 38, 4), ([62], 39, 4), ([62, 61], 40, 4), ([43], 33, 5), ([45], 34, 5), ([42], 30, 6), ([47], 31, 6), ([37], 32, 6)]
def binF (l : Bytes) : Int × Int := lookT signT l
def lookW (T : List (Bytes × Int)) (l : Bytes) : Int := ((T.find? fun x => x.1 == l).map (·.2)).getD 0
def factT : List (Bytes × Int) := [([116, 114, 117, 101], 2), ([102, 97, 108, 115, 101], 3), ([110, 111, 110, 101], 4), ([110], 6), ([105, 100, 115], 7), ([105, 100], 8), ([100, 101, 103], 9), ([114, 111, 111, 116], 10)]
def factF (l : Bytes) : Int := lookW factT l
def fieldT : List (Bytes × Int) := [([105, 100], 13), ([100, 101, 103], 14), ([114, 111, 111, 116], 15), ([119, 101, 105, 103, 104, 116], 16), ([98, 97, 99, 107], 17)]
def fieldF (l : Bytes) : Int := lookW fieldT l
def aggT : List (Bytes × Int) := [([97, 108, 108], 20), ([115, 111, 109, 101], 21), ([99, 111, 117, 110, 116], 22), ([102, 105, 114, 115, 116], 23), ([109, 105, 110], 24), ([109, 97, 120], 25), ([115, 117, 109], 26), ([109, 101, 120], 27), ([115, 101, 99, 111, 110, 100], 28), ([104, 101, 97, 100], 29)]
def aggW (l : Bytes) : Int := lookW aggT l
/-- the place of a name -/
def idxN : List Bytes → Bytes → Option Nat
  | [], _ => none
  | x :: r, l => if x = l then some 0 else (idxN r l).map (· + 1)
def idxI (ns : List Bytes) (l : Bytes) : Int := match idxN ns l with
  | some i => i
  | none => -1
def goodN : List Bytes → List Bytes → Bool
  | _, [] => true
  | done, x :: r => nameF x && decide (idxI done x < 0) && goodN (done ++ [x]) r
def goodF (ns : List Bytes) : Bool := decide (ns.length ≤ 6) && goodN [] ns

/-! ### States -/
/-- a token, as the reader sees it -/
structure Pt where
  word : Bytes
  kind : Nat
  num : Nat
  at_ : Nat
/-- the tokens of a text, the names, the length of the text -/
structure Env where
  ts : List Pt
  ns : List Bytes
  len : Nat
structure St where
  i : Nat
  err : Nat
  place : Nat
def Env.word (V : Env) (s : St) : Bytes := if s.err ≠ 0 then [] else ((V.ts[s.i]?).map (·.word)).getD []
def Env.kind (V : Env) (s : St) : Nat := if s.err ≠ 0 then 0 else ((V.ts[s.i]?).map (·.kind)).getD 0
def Env.num (V : Env) (s : St) : Nat := ((V.ts[s.i]?).map (·.num)).getD 0
def Env.here (V : Env) (s : St) : Nat := ((V.ts[s.i]?).map (·.at_)).getD V.len
def Env.fail (V : Env) (s : St) (e : Nat) : St := if s.err ≠ 0 then s else { s with err := e, place := V.here s }
def St.adv (s : St) : St := { s with i := s.i + 1 }
def Env.want (V : Env) (w : Bytes) (s : St) : St := if V.word s = w then s.adv else V.fail s 4
abbrev Out := List (Int × Int) × St
def Env.var (V : Env) (op : Int) (s : St) : Out :=
  if nameF (V.word s) = false then ([], V.fail s 4) else match idxN V.ns (V.word s) with
    | none => ([], V.fail s 5)
    | some x => ([(op, (x : Int))], s.adv)

/-! ### What is read -/
inductive Go6 where
  | choice
  | bin (lv : Nat)
  | more (lv : Nat) (l : List (Int × Int))
  | unary
  | prim
/-- behind q -/
def Env.near (V : Env) (s : St) : Out :=
  if V.word s = [46] then (if fieldF (V.word s.adv) ≠ 0 then ([(fieldF (V.word s.adv), 0)], s.adv.adv) else V.var 12 s.adv) else ([(11, 0)], s)
def Env.run (V : Env) : Nat → Go6 → St → Option Out
  | 0, _, _ => none
  | n + 1, .choice, s => (V.run n (.bin 2) s).bind fun c =>
      if V.word c.2 = [63] then (V.run n .choice c.2.adv).bind fun a => (V.run n .choice (V.want [58] a.2)).bind fun b => some ((43, 0) :: (c.1 ++ (a.1 ++ b.1)), b.2)
      else some c
  | n + 1, .bin lv, s => if 6 < lv then V.run n .unary s else (V.run n (.bin (lv + 1)) s).bind fun l => V.run n (.more lv l.1) l.2
  | n + 1, .more lv l, s => if (binF (V.word s)).1 = 0 ∨ (binF (V.word s)).2 ≠ (lv : Int) then some (l, s)
      else (V.run n (.bin (lv + 1)) s.adv).bind fun r => if lv = 4 then some (((binF (V.word s)).1, 0) :: (l ++ r.1), r.2) else V.run n (.more lv (((binF (V.word s)).1, 0) :: (l ++ r.1))) r.2
  | n + 1, .unary, s => if V.word s = [45] then (V.run n .unary s.adv).bind fun x => some ((18, 0) :: x.1, x.2)
      else if V.word s = [33] then (V.run n .unary s.adv).bind fun x => some ((19, 0) :: x.1, x.2)
      else V.run n .prim s
  | n + 1, .prim, s => if V.kind s = 2 then some ([(1, (V.num s : Int))], s.adv)
      else if factF (V.word s) ≠ 0 then some ([(factF (V.word s), 0)], s.adv)
      else if aggW (V.word s) ≠ 0 then (V.run n .choice (V.want [40] s.adv)).bind fun x => some ((aggW (V.word s), 0) :: x.1, V.want [41] x.2)
      else if V.word s = [40] then (V.run n .choice s.adv).bind fun x => some (x.1, V.want [41] x.2)
      else if V.word s = [113] then some (V.near s.adv)
      else some (V.var 5 s)

/-! ### Steps go on, and lists are no longer than what has been read -/
/-- what a state has become: it has gone on, and an error stays -/
structure Later (V : Env) (s s' : St) : Prop where
  le : s.i ≤ s'.i
  stay : s.err ≠ 0 → s' = s
  top : s.i ≤ V.ts.length → s'.i ≤ V.ts.length
theorem Later.refl (V : Env) (s : St) : Later V s s := ⟨Nat.le_refl _, fun _ => rfl, id⟩
theorem Later.trans {V : Env} {a b c : St} (h : Later V a b) (k : Later V b c) : Later V a c :=
  ⟨Nat.le_trans h.le k.le, fun e => by have := h.stay e; rw [this] at k; exact k.stay e, fun e => k.top (h.top e)⟩
theorem word_bad {V : Env} {s : St} (h : s.err ≠ 0) : V.word s = [] := by unfold Env.word; rw [if_pos h]
theorem word_end {V : Env} {s : St} (h : V.ts.length ≤ s.i) : V.word s = [] := by
  unfold Env.word
  split
  · rfl
  · rw [List.getElem?_eq_none h]
    rfl
theorem word_in {V : Env} {s : St} {x : UInt8} {l : Bytes} (h : V.word s = x :: l) : s.err = 0 ∧ s.i < V.ts.length := by
  refine ⟨?_, ?_⟩
  · by_cases e : s.err = 0
    · exact e
    · rw [word_bad e] at h
      cases h
  · by_cases e : s.i < V.ts.length
    · exact e
    · rw [word_end (by omega)] at h
      cases h
theorem kind_in {V : Env} {s : St} (h : V.kind s ≠ 0) : s.err = 0 ∧ s.i < V.ts.length := by
  unfold Env.kind at h
  split at h
  · exact absurd rfl h
  · rename_i e
    refine ⟨by omega, ?_⟩
    by_cases e2 : s.i < V.ts.length
    · exact e2
    · rw [List.getElem?_eq_none (by omega)] at h
      exact absurd rfl h
theorem Later.adv {V : Env} {s : St} (h : s.err = 0 ∧ s.i < V.ts.length) : Later V s s.adv := ⟨Nat.le_succ _, fun e => absurd h.1 e, fun _ => h.2⟩
theorem Later.fail (V : Env) (s : St) (e : Nat) : Later V s (V.fail s e) := by
  unfold Env.fail
  split
  · exact Later.refl _ _
  · rename_i h
    exact ⟨Nat.le_refl _, fun k => absurd k (by simpa using h), id⟩
theorem fail_i (V : Env) (s : St) (e : Nat) : (V.fail s e).i = s.i := by
  unfold Env.fail
  split <;> rfl
theorem Later.want {V : Env} {x : UInt8} {l : Bytes} (s : St) : Later V s (V.want (x :: l) s) := by
  unfold Env.want
  split
  · rename_i h
    exact Later.adv (word_in h)
  · exact Later.fail _ _ _
theorem look_nil {T : List (Bytes × Int)} (h : T.all (fun x => !(x.1 == [])) = true) : lookW T [] = 0 := by
  unfold lookW
  rw [List.find?_eq_none.2 (fun x hx => by
    rw [List.all_eq_true] at h
    simpa using h x hx)]
  rfl
theorem bin_nil : binF [] = (0, 0) := by decide
theorem not_nil {l : Bytes} (h : l ≠ []) : ∃ x r, l = x :: r := by
  cases l with
  | nil => exact absurd rfl h
  | cons x r => exact ⟨x, r, rfl⟩
/-- what a step's outcome keeps -/
structure Fine (V : Env) (s : St) (n0 : Nat) (o : Out) : Prop where
  later : Later V s o.2
  len : o.1.length + s.i ≤ n0 + o.2.i
theorem Fine.var (V : Env) (op : Int) (s : St) : Fine V s 0 (V.var op s) := by
  unfold Env.var
  split
  · exact ⟨Later.fail _ _ _, by simp [fail_i]⟩
  · rename_i h
    have hw : V.word s ≠ [] := by
      intro e
      rw [e] at h
      exact h rfl
    obtain ⟨x, r, hx⟩ := not_nil hw
    split
    · exact ⟨Later.fail _ _ _, by simp [fail_i]⟩
    · exact ⟨Later.adv (word_in hx), by simp [St.adv]; omega⟩
theorem Fine.near (V : Env) (s : St) : Later V s (V.near s).2 ∧ (V.near s).1.length ≤ 1 + ((V.near s).2.i - s.i) ∧ (V.near s).1.length ≤ 1 := by
  unfold Env.near
  split
  · rename_i h
    have h1 := Later.adv (word_in h)
    split
    · rename_i h2
      have hw : V.word s.adv ≠ [] := by
        intro e
        rw [e] at h2
        exact h2 (by decide)
      obtain ⟨x, r, hx⟩ := not_nil hw
      exact ⟨h1.trans (Later.adv (word_in hx)), by simp, by simp⟩
    · have h3 := Fine.var V 12 s.adv
      refine ⟨h1.trans h3.later, ?_, ?_⟩
      · unfold Env.var
        split
        · simp
        · split <;> simp
      · unfold Env.var
        split
        · simp
        · split <;> simp
  · exact ⟨Later.refl _ _, by simp, by simp⟩
/-- how much longer a step's list may be than what it reads -/
def Go6.base : Go6 → Nat
  | .more _ l => l.length
  | _ => 0
theorem run_fine (V : Env) : ∀ (n : Nat) (g : Go6) (s : St) (o : Out), V.run n g s = some o → Fine V s g.base o
  | 0, g, s, o, h => by unfold Env.run at h; cases h
  | n + 1, .choice, s, o, h => by
    unfold Env.run at h
    cases h1 : V.run n (.bin 2) s with
    | none => rw [h1] at h; cases h
    | some c =>
      have f1 := run_fine V n _ _ _ h1
      rw [h1, Option.bind_some] at h
      split at h
      · rename_i hq
        have f2 := Later.adv (word_in hq)
        cases h2 : V.run n .choice c.2.adv with
        | none => rw [h2] at h; cases h
        | some a =>
          have f3 := run_fine V n _ _ _ h2
          rw [h2, Option.bind_some] at h
          cases h4 : V.run n .choice (V.want [58] a.2) with
          | none => rw [h4] at h; cases h
          | some b =>
            have f5 := run_fine V n _ _ _ h4
            have f4 := Later.want (V := V) (x := 58) (l := []) a.2
            rw [h4, Option.bind_some] at h
            injection h with h
            subst h
            refine ⟨f1.later.trans (f2.trans (f3.later.trans (f4.trans f5.later))), ?_⟩
            have a1 := f1.len
            have a2 := f3.len
            have a3 := f5.len
            have a4 := f4.le
            simp only [Go6.base] at a1 a2 a3 ⊢
            simp [St.adv] at *
            omega
      · injection h with h
        subst h
        exact f1
  | n + 1, .bin lv, s, o, h => by
    unfold Env.run at h
    split at h
    · have f := run_fine V n _ _ _ h
      exact ⟨f.later, f.len⟩
    · cases h1 : V.run n (.bin (lv + 1)) s with
      | none => rw [h1] at h; cases h
      | some l =>
        have f1 := run_fine V n _ _ _ h1
        rw [h1, Option.bind_some] at h
        have f2 := run_fine V n _ _ _ h
        refine ⟨f1.later.trans f2.later, ?_⟩
        have a1 := f1.len
        have a2 := f2.len
        simp only [Go6.base] at *
        omega
  | n + 1, .more lv l, s, o, h => by
    unfold Env.run at h
    split at h
    · injection h with h
      subst h
      exact ⟨Later.refl _ _, by simp [Go6.base]⟩
    · rename_i hq
      have hw : V.word s ≠ [] := by
        intro e
        rw [e, bin_nil] at hq
        exact hq (.inl rfl)
      obtain ⟨x, r, hx⟩ := not_nil hw
      have f0 := Later.adv (word_in hx)
      cases h1 : V.run n (.bin (lv + 1)) s.adv with
      | none => rw [h1] at h; cases h
      | some r =>
        have f1 := run_fine V n _ _ _ h1
        rw [h1, Option.bind_some] at h
        have a1 := f1.len
        split at h
        · injection h with h
          subst h
          refine ⟨f0.trans f1.later, ?_⟩
          simp only [Go6.base] at *
          simp [St.adv] at *
          omega
        · have f2 := run_fine V n _ _ _ h
          refine ⟨f0.trans (f1.later.trans f2.later), ?_⟩
          have a2 := f2.len
          simp only [Go6.base] at *
          simp [St.adv] at *
          omega
  | n + 1, .unary, s, o, h => by
    unfold Env.run at h
    split at h
    · rename_i hq
      have f0 := Later.adv (word_in hq)
      cases h1 : V.run n .unary s.adv with
      | none => rw [h1] at h; cases h
      | some x =>
        have f1 := run_fine V n _ _ _ h1
        rw [h1, Option.bind_some] at h
        injection h with h
        subst h
        refine ⟨f0.trans f1.later, ?_⟩
        have a1 := f1.len
        simp only [Go6.base] at *
        simp [St.adv] at *
        omega
    · split at h
      · rename_i hq
        have f0 := Later.adv (word_in hq)
        cases h1 : V.run n .unary s.adv with
        | none => rw [h1] at h; cases h
        | some x =>
          have f1 := run_fine V n _ _ _ h1
          rw [h1, Option.bind_some] at h
          injection h with h
          subst h
          refine ⟨f0.trans f1.later, ?_⟩
          have a1 := f1.len
          simp only [Go6.base] at *
          simp [St.adv] at *
          omega
      · have f := run_fine V n _ _ _ h
        exact ⟨f.later, f.len⟩
  | n + 1, .prim, s, o, h => by
    unfold Env.run at h
    split at h
    · rename_i hk
      injection h with h
      subst h
      exact ⟨Later.adv (kind_in (by omega)), by simp [St.adv, Go6.base]; omega⟩
    · split at h
      · rename_i hq
        have hw : V.word s ≠ [] := by
          intro e
          rw [e] at hq
          exact hq (by decide)
        obtain ⟨x, r, hx⟩ := not_nil hw
        injection h with h
        subst h
        exact ⟨Later.adv (word_in hx), by simp [St.adv, Go6.base]; omega⟩
      · split at h
        · rename_i hq
          have hw : V.word s ≠ [] := by
            intro e
            rw [e] at hq
            exact hq (by decide)
          obtain ⟨x, r, hx⟩ := not_nil hw
          have f0 := Later.adv (word_in hx)
          have f1 := Later.want (V := V) (x := 40) (l := []) s.adv
          cases h1 : V.run n .choice (V.want [40] s.adv) with
          | none => rw [h1] at h; cases h
          | some y =>
            have f2 := run_fine V n _ _ _ h1
            have f3 := Later.want (V := V) (x := 41) (l := []) y.2
            rw [h1, Option.bind_some] at h
            injection h with h
            subst h
            refine ⟨f0.trans (f1.trans (f2.later.trans f3)), ?_⟩
            have a1 := f2.len
            have a2 := f1.le
            have a3 := f3.le
            simp only [Go6.base] at *
            simp [St.adv] at *
            omega
        · split at h
          · rename_i hq
            have f0 := Later.adv (word_in hq)
            cases h1 : V.run n .choice s.adv with
            | none => rw [h1] at h; cases h
            | some y =>
              have f2 := run_fine V n _ _ _ h1
              have f3 := Later.want (V := V) (x := 41) (l := []) y.2
              rw [h1, Option.bind_some] at h
              injection h with h
              subst h
              refine ⟨f0.trans (f2.later.trans f3), ?_⟩
              have a1 := f2.len
              have a3 := f3.le
              simp only [Go6.base] at *
              simp [St.adv] at *
              omega
          · split at h
            · rename_i hq
              have hin := word_in hq
              have f0 := Later.adv hin
              obtain ⟨f1, f2, f3⟩ := Fine.near V s.adv
              injection h with h
              subst h
              refine ⟨f0.trans f1, ?_⟩
              have a1 := f1.le
              simp only [Go6.base] at *
              simp [St.adv] at a1 f3 ⊢
              omega
            · injection h with h
              subst h
              exact Fine.var V 5 s
end Go.Proofs.YtdbahiepihkagaaGreatDoor
namespace Go.Proofs.YtdbahiepihkagaaGreatDoor
set_option maxRecDepth 100000

theorem run_more (V : Env) : ∀ (n : Nat) (g : Go6) (s : St) (o : Out), V.run n g s = some o → V.run (n + 1) g s = some o
  | 0, g, s, o, h => by unfold Env.run at h; cases h
  | n + 1, .choice, s, o, h => by
    unfold Env.run at h ⊢
    cases h1 : V.run n (.bin 2) s with
    | none => rw [h1] at h; cases h
    | some c =>
      rw [h1, Option.bind_some] at h
      rw [run_more V n _ _ _ h1, Option.bind_some]
      split at h
      · rename_i hq
        rw [if_pos hq]
        cases h2 : V.run n .choice c.2.adv with
        | none => rw [h2] at h; cases h
        | some a =>
          rw [h2, Option.bind_some] at h
          rw [run_more V n _ _ _ h2, Option.bind_some]
          cases h3 : V.run n .choice (V.want [58] a.2) with
          | none => rw [h3] at h; cases h
          | some b =>
            rw [h3, Option.bind_some] at h
            rw [run_more V n _ _ _ h3, Option.bind_some]
            exact h
      · rename_i hq
        rw [if_neg hq]
        exact h
  | n + 1, .bin lv, s, o, h => by
    unfold Env.run at h ⊢
    split at h
    · rename_i hq
      rw [if_pos hq]
      exact run_more V n _ _ _ h
    · rename_i hq
      rw [if_neg hq]
      cases h1 : V.run n (.bin (lv + 1)) s with
      | none => rw [h1] at h; cases h
      | some l =>
        rw [h1, Option.bind_some] at h
        rw [run_more V n _ _ _ h1, Option.bind_some]
        exact run_more V n _ _ _ h
  | n + 1, .more lv l, s, o, h => by
    unfold Env.run at h ⊢
    split at h
    · rename_i hq
      rw [if_pos hq]
      exact h
    · rename_i hq
      rw [if_neg hq]
      cases h1 : V.run n (.bin (lv + 1)) s.adv with
      | none => rw [h1] at h; cases h
      | some r =>
        rw [h1, Option.bind_some] at h
        rw [run_more V n _ _ _ h1, Option.bind_some]
        split at h
        · rename_i h4
          rw [if_pos h4]
          exact h
        · rename_i h4
          rw [if_neg h4]
          exact run_more V n _ _ _ h
  | n + 1, .unary, s, o, h => by
    unfold Env.run at h ⊢
    split at h
    · rename_i hq
      rw [if_pos hq]
      cases h1 : V.run n .unary s.adv with
      | none => rw [h1] at h; cases h
      | some x =>
        rw [h1, Option.bind_some] at h
        rw [run_more V n _ _ _ h1, Option.bind_some]
        exact h
    · rename_i hq
      rw [if_neg hq]
      split at h
      · rename_i hq2
        rw [if_pos hq2]
        cases h1 : V.run n .unary s.adv with
        | none => rw [h1] at h; cases h
        | some x =>
          rw [h1, Option.bind_some] at h
          rw [run_more V n _ _ _ h1, Option.bind_some]
          exact h
      · rename_i hq2
        rw [if_neg hq2]
        exact run_more V n _ _ _ h
  | n + 1, .prim, s, o, h => by
    unfold Env.run at h ⊢
    split at h
    · rename_i q1
      rw [if_pos q1]
      exact h
    · rename_i q1
      rw [if_neg q1]
      split at h
      · rename_i q2
        rw [if_pos q2]
        exact h
      · rename_i q2
        rw [if_neg q2]
        split at h
        · rename_i q3
          rw [if_pos q3]
          cases h1 : V.run n .choice (V.want [40] s.adv) with
          | none => rw [h1] at h; cases h
          | some y =>
            rw [h1, Option.bind_some] at h
            rw [run_more V n _ _ _ h1, Option.bind_some]
            exact h
        · rename_i q3
          rw [if_neg q3]
          split at h
          · rename_i q4
            rw [if_pos q4]
            cases h1 : V.run n .choice s.adv with
            | none => rw [h1] at h; cases h
            | some y =>
              rw [h1, Option.bind_some] at h
              rw [run_more V n _ _ _ h1, Option.bind_some]
              exact h
          · rename_i q4
            rw [if_neg q4]
            exact h
theorem run_up {V : Env} {n m : Nat} {g : Go6} {s : St} {o : Out} (h : V.run n g s = some o) (hm : n ≤ m) : V.run m g s = some o := by
  induction hm with
  | refl => exact h
  | step _ ih => exact run_more V _ _ _ _ ih
theorem run_one {V : Env} {n m : Nat} {g : Go6} {s : St} {o p : Out} (h : V.run n g s = some o) (k : V.run m g s = some p) : o = p := by
  have h1 := run_up h (Nat.le_max_left n m)
  have h2 := run_up k (Nat.le_max_right n m)
  rw [h1] at h2
  exact Option.some.inj h2

def Ends (V : Env) (g : Go6) (s : St) : Prop := ∃ n o, V.run n g s = some o
/-- the tokens that are still to come -/
def rem (V : Env) (s : St) : Nat := if s.err = 0 then V.ts.length - s.i else 0
theorem Later.rem {V : Env} {s s' : St} (h : Later V s s') : rem V s' ≤ rem V s := by
  unfold Go.Proofs.YtdbahiepihkagaaGreatDoor.rem
  by_cases e : s.err = 0
  · have := h.le
    rw [if_pos e]
    split <;> omega
  · rw [h.stay e]
    exact Nat.le_refl _
theorem rem_adv {V : Env} {s : St} (h : s.err = 0 ∧ s.i < V.ts.length) : rem V s.adv < rem V s := by
  unfold rem St.adv
  simp only [h.1, if_true]
  omega
theorem Ends.choice {V : Env} {s : St} (h1 : Ends V (.bin 2) s) (h : ∀ s', rem V s' < rem V s → Ends V .choice s') : Ends V .choice s := by
  obtain ⟨n1, c, e1⟩ := h1
  have f1 := run_fine V _ _ _ _ e1
  by_cases hq : V.word c.2 = [63]
  · have hin := word_in hq
    have r1 := rem_adv hin
    have r0 := f1.later.rem
    obtain ⟨n2, a, e2⟩ := h c.2.adv (by omega)
    have f2 := run_fine V _ _ _ _ e2
    have r2 := f2.later.rem
    have r3 := (Later.want (V := V) (x := 58) (l := []) a.2).rem
    obtain ⟨n3, b, e3⟩ := h (V.want [58] a.2) (by omega)
    refine ⟨max n1 (max n2 n3) + 1, ?_⟩
    unfold Env.run
    rw [run_up e1 (by omega), Option.bind_some, if_pos hq, run_up e2 (by omega), Option.bind_some, run_up e3 (by omega), Option.bind_some]
    exact ⟨_, rfl⟩
  · refine ⟨n1 + 1, ?_⟩
    unfold Env.run
    rw [e1, Option.bind_some, if_neg hq]
    exact ⟨_, rfl⟩
theorem Ends.more {V : Env} {lv : Nat} {l : List (Int × Int)} {s : St} (h : ∀ g s', rem V s' < rem V s → Ends V g s') : Ends V (.more lv l) s := by
  by_cases hq : (binF (V.word s)).1 = 0 ∨ (binF (V.word s)).2 ≠ (lv : Int)
  · refine ⟨1, ?_⟩
    unfold Env.run
    rw [if_pos hq]
    exact ⟨_, rfl⟩
  · have hw : V.word s ≠ [] := by
      intro e
      rw [e, bin_nil] at hq
      exact hq (.inl rfl)
    obtain ⟨x, r, hx⟩ := not_nil hw
    have r1 := rem_adv (word_in hx)
    obtain ⟨n1, r, e1⟩ := h (.bin (lv + 1)) s.adv r1
    have f1 := (run_fine V _ _ _ _ e1).later.rem
    by_cases h4 : lv = 4
    · refine ⟨n1 + 1, ?_⟩
      unfold Env.run
      rw [if_neg hq, e1, Option.bind_some, if_pos h4]
      exact ⟨_, rfl⟩
    · obtain ⟨n2, o, e2⟩ := h (.more lv (((binF (V.word s)).1, 0) :: (l ++ r.1))) r.2 (by omega)
      refine ⟨max n1 n2 + 1, o, ?_⟩
      unfold Env.run
      rw [if_neg hq, run_up e1 (by omega), Option.bind_some, if_neg h4, run_up e2 (by omega)]
theorem Ends.bin {V : Env} {s : St} (hu : Ends V .unary s) (h : ∀ g s', rem V s' < rem V s → Ends V g s') : ∀ (k lv : Nat), 7 ≤ lv + k → Ends V (.bin lv) s
  | 0, lv, hk => by
    obtain ⟨n, o, e⟩ := hu
    refine ⟨n + 1, o, ?_⟩
    unfold Env.run
    rw [if_pos (by omega), e]
  | k + 1, lv, hk => by
    by_cases h6 : 6 < lv
    · obtain ⟨n, o, e⟩ := hu
      refine ⟨n + 1, o, ?_⟩
      unfold Env.run
      rw [if_pos h6, e]
    · obtain ⟨n1, l, e1⟩ := Ends.bin hu h k (lv + 1) (by omega)
      have r1 := (run_fine V _ _ _ _ e1).later.rem
      obtain ⟨n2, o, e2⟩ := Ends.more (V := V) (lv := lv) (l := l.1) (s := l.2) (fun g s' hs => h g s' (by omega))
      refine ⟨max n1 n2 + 1, o, ?_⟩
      unfold Env.run
      rw [if_neg h6, run_up e1 (by omega), Option.bind_some, run_up e2 (by omega)]
theorem Ends.prim {V : Env} {s : St} (h : ∀ s', rem V s' < rem V s → Ends V .choice s') : Ends V .prim s := by
  by_cases q1 : V.kind s = 2
  · refine ⟨1, ?_⟩
    unfold Env.run
    rw [if_pos q1]
    exact ⟨_, rfl⟩
  by_cases q2 : factF (V.word s) ≠ 0
  · refine ⟨1, ?_⟩
    unfold Env.run
    rw [if_neg q1, if_pos q2]
    exact ⟨_, rfl⟩
  by_cases q3 : aggW (V.word s) ≠ 0
  · have hw : V.word s ≠ [] := by
      intro e
      rw [e] at q3
      exact q3 (by decide)
    obtain ⟨x, r, hx⟩ := not_nil hw
    have r1 := rem_adv (word_in hx)
    have r2 := (Later.want (V := V) (x := 40) (l := []) s.adv).rem
    obtain ⟨n, o, e⟩ := h (V.want [40] s.adv) (by omega)
    refine ⟨n + 1, ?_⟩
    unfold Env.run
    rw [if_neg q1, if_neg q2, if_pos q3, e, Option.bind_some]
    exact ⟨_, rfl⟩
  by_cases q4 : V.word s = [40]
  · have r1 := rem_adv (word_in q4)
    obtain ⟨n, o, e⟩ := h s.adv r1
    refine ⟨n + 1, ?_⟩
    unfold Env.run
    rw [if_neg q1, if_neg q2, if_neg q3, if_pos q4, e, Option.bind_some]
    exact ⟨_, rfl⟩
  by_cases q5 : V.word s = [113]
  · refine ⟨1, ?_⟩
    unfold Env.run
    rw [if_neg q1, if_neg q2, if_neg q3, if_neg q4, if_pos q5]
    exact ⟨_, rfl⟩
  · refine ⟨1, ?_⟩
    unfold Env.run
    rw [if_neg q1, if_neg q2, if_neg q3, if_neg q4, if_neg q5]
    exact ⟨_, rfl⟩
theorem Ends.unary {V : Env} {s : St} (hp : Ends V .prim s) (h : ∀ s', rem V s' < rem V s → Ends V .unary s') : Ends V .unary s := by
  by_cases q1 : V.word s = [45]
  · obtain ⟨n, o, e⟩ := h s.adv (rem_adv (word_in q1))
    refine ⟨n + 1, ?_⟩
    unfold Env.run
    rw [if_pos q1, e, Option.bind_some]
    exact ⟨_, rfl⟩
  by_cases q2 : V.word s = [33]
  · obtain ⟨n, o, e⟩ := h s.adv (rem_adv (word_in q2))
    refine ⟨n + 1, ?_⟩
    unfold Env.run
    rw [if_neg q1, if_pos q2, e, Option.bind_some]
    exact ⟨_, rfl⟩
  · obtain ⟨n, o, e⟩ := hp
    refine ⟨n + 1, o, ?_⟩
    unfold Env.run
    rw [if_neg q1, if_neg q2, e]
theorem ends_all (V : Env) : ∀ (k : Nat) (g : Go6) (s : St), rem V s ≤ k → Ends V g s := by
  intro k
  induction k with
  | zero =>
    intro g s hs
    have none : ∀ g s', rem V s' < rem V s → Ends V g s' := fun g s' h => by omega
    have hp := Ends.prim (V := V) (s := s) (fun s' h => none _ s' h)
    have hu := hp.unary (fun s' h => none _ s' h)
    have hb := fun lv => hu.bin none 7 lv (by omega)
    cases g with
    | choice => exact (hb 2).choice (fun s' h => none _ s' h)
    | bin lv => exact hb lv
    | more lv l => exact Ends.more none
    | unary => exact hu
    | prim => exact hp
  | succ k ih =>
    intro g s hs
    have less : ∀ g s', rem V s' < rem V s → Ends V g s' := fun g s' h => ih g s' (by omega)
    have hp := Ends.prim (V := V) (s := s) (fun s' h => less _ s' h)
    have hu := hp.unary (fun s' h => less _ s' h)
    have hb := fun lv => hu.bin less 7 lv (by omega)
    cases g with
    | choice => exact (hb 2).choice (fun s' h => less _ s' h)
    | bin lv => exact hb lv
    | more lv l => exact Ends.more less
    | unary => exact hu
    | prim => exact hp
theorem ends6 (V : Env) (g : Go6) (s : St) : Ends V g s := ends_all V _ g s (Nat.le_refl _)
/-- what is read, whole -/
noncomputable def Env.read (V : Env) (g : Go6) (s : St) : Out := (Classical.choose_spec (ends6 V g s)).choose
theorem read_some (V : Env) (g : Go6) (s : St) : ∃ n, V.run n g s = some (V.read g s) := ⟨_, (Classical.choose_spec (ends6 V g s)).choose_spec⟩
theorem read_eq {V : Env} {n : Nat} {g : Go6} {s : St} {o : Out} (h : V.run n g s = some o) : V.read g s = o := by
  obtain ⟨m, k⟩ := read_some V g s
  exact run_one k h
end Go.Proofs.YtdbahiepihkagaaGreatDoor
namespace Go.Proofs.YtdbahiepihkagaaGreatDoor
set_option maxRecDepth 100000

/-! ### The same tokens up to a place -/
structure Agree (V V' : Env) (j : Nat) : Prop where
  ns : V'.ns = V.ns
  ts : ∀ k, k ≤ j → V'.ts[k]? = V.ts[k]?
  top : j < V.ts.length
theorem Agree.down {V V' : Env} {j k : Nat} (h : Agree V V' j) (hk : k ≤ j) : Agree V V' k := ⟨h.ns, fun m hm => h.ts m (by omega), by have := h.top; omega⟩
theorem Agree.length {V V' : Env} {j : Nat} (h : Agree V V' j) : j < V'.ts.length := by
  have h1 := h.ts j (Nat.le_refl _)
  rw [List.getElem?_eq_getElem h.top] at h1
  rcases Nat.lt_or_ge j V'.ts.length with h2 | h2
  · exact h2
  · rw [List.getElem?_eq_none h2] at h1
    cases h1
theorem Agree.symm {V V' : Env} {j : Nat} (h : Agree V V' j) : Agree V' V j := ⟨h.ns.symm, fun k hk => (h.ts k hk).symm, h.length⟩
theorem Agree.word {V V' : Env} {s : St} (h : Agree V V' s.i) : V'.word s = V.word s := by
  unfold Env.word
  rw [h.ts s.i (Nat.le_refl _)]
theorem Agree.kind {V V' : Env} {s : St} (h : Agree V V' s.i) : V'.kind s = V.kind s := by
  unfold Env.kind
  rw [h.ts s.i (Nat.le_refl _)]
theorem Agree.num {V V' : Env} {s : St} (h : Agree V V' s.i) : V'.num s = V.num s := by
  unfold Env.num
  rw [h.ts s.i (Nat.le_refl _)]
theorem Agree.here {V V' : Env} {s : St} (h : Agree V V' s.i) : V'.here s = V.here s := by
  unfold Env.here
  rw [h.ts s.i (Nat.le_refl _), List.getElem?_eq_getElem h.top]
  rfl
theorem Agree.fail {V V' : Env} {s : St} (h : Agree V V' s.i) (e : Nat) : V'.fail s e = V.fail s e := by
  unfold Env.fail
  rw [h.here]
theorem Agree.want {V V' : Env} {s : St} (h : Agree V V' s.i) (x : Bytes) : V'.want x s = V.want x s := by
  unfold Env.want
  rw [h.word, h.fail]
theorem Agree.var {V V' : Env} {s : St} (h : Agree V V' s.i) (op : Int) : V'.var op s = V.var op s := by
  unfold Env.var
  rw [h.word, h.fail, h.fail, h.ns]
theorem var_i (V : Env) (op : Int) (s : St) : s.i ≤ (V.var op s).2.i := (Fine.var V op s).later.le
theorem Agree.near {V V' : Env} {s : St} (h : Agree V V' (V.near s).2.i) : V'.near s = V.near s := by
  have h0 := (Fine.near V s).1.le
  have hs := h.down h0
  unfold Env.near at h ⊢
  rw [hs.word]
  split
  · rename_i h1
    rw [if_pos h1] at h
    have h2 : Agree V V' s.adv.i := by
      refine h.down ?_
      split
      · show s.i + 1 ≤ s.i + 1 + 1
        omega
      · exact var_i _ _ _
    rw [h2.word]
    split
    · rfl
    · rw [h2.var]
  · rfl
theorem run_same {V V' : Env} : ∀ (n : Nat) (g : Go6) (s : St) (o : Out), V.run n g s = some o → Agree V V' o.2.i → V'.run n g s = some o
  | 0, g, s, o, h, _ => by unfold Env.run at h; cases h
  | n + 1, .choice, s, o, h, hj => by
    unfold Env.run at h ⊢
    cases h1 : V.run n (.bin 2) s with
    | none => rw [h1] at h; cases h
    | some c =>
      rw [h1, Option.bind_some] at h
      by_cases hq : V.word c.2 = [63]
      · rw [if_pos hq] at h
        cases h2 : V.run n .choice c.2.adv with
        | none => rw [h2] at h; cases h
        | some a =>
          rw [h2, Option.bind_some] at h
          cases h3 : V.run n .choice (V.want [58] a.2) with
          | none => rw [h3] at h; cases h
          | some b =>
            rw [h3, Option.bind_some] at h
            injection h with h
            subst h
            have l0 := (Later.adv (word_in hq)).le
            have l2 := (run_fine V _ _ _ _ h2).later.le
            have lw := (Later.want (V := V) (x := 58) (l := []) a.2).le
            have l3 := (run_fine V _ _ _ _ h3).later.le
            have ja : Agree V V' a.2.i := hj.down (by show a.2.i ≤ b.2.i; omega)
            have jc : Agree V V' c.2.i := hj.down (by show c.2.i ≤ b.2.i; omega)
            rw [run_same n _ _ _ h1 jc, Option.bind_some, jc.word, if_pos hq, run_same n _ _ _ h2 ja, Option.bind_some, ja.want, run_same n _ _ _ h3 hj, Option.bind_some]
      · rw [if_neg hq] at h
        injection h with h
        subst h
        rw [run_same n _ _ _ h1 hj, Option.bind_some, hj.word, if_neg hq]
  | n + 1, .bin lv, s, o, h, hj => by
    unfold Env.run at h ⊢
    split at h
    · rename_i hq
      rw [if_pos hq, run_same n _ _ _ h hj]
    · rename_i hq
      rw [if_neg hq]
      cases h1 : V.run n (.bin (lv + 1)) s with
      | none => rw [h1] at h; cases h
      | some l =>
        rw [h1, Option.bind_some] at h
        have l1 := (run_fine V _ _ _ _ h).later.le
        rw [run_same n _ _ _ h1 (hj.down l1), Option.bind_some, run_same n _ _ _ h hj]
  | n + 1, .more lv l, s, o, h, hj => by
    have js : Agree V V' s.i := hj.down (run_fine V _ _ _ _ h).later.le
    unfold Env.run at h ⊢
    rw [js.word]
    split at h
    · rename_i hq
      rw [if_pos hq]
      exact h
    · rename_i hq
      rw [if_neg hq]
      cases h1 : V.run n (.bin (lv + 1)) s.adv with
      | none => rw [h1] at h; cases h
      | some r =>
        rw [h1, Option.bind_some] at h
        split at h
        · rename_i h4
          injection h with h
          subst h
          rw [run_same n _ _ _ h1 hj, Option.bind_some, if_pos h4]
        · rename_i h4
          rw [run_same n _ _ _ h1 (hj.down (run_fine V _ _ _ _ h).later.le), Option.bind_some, if_neg h4, run_same n _ _ _ h hj]
  | n + 1, .unary, s, o, h, hj => by
    have js : Agree V V' s.i := hj.down (run_fine V _ _ _ _ h).later.le
    unfold Env.run at h ⊢
    rw [js.word]
    split at h
    · rename_i hq
      rw [if_pos hq]
      cases h1 : V.run n .unary s.adv with
      | none => rw [h1] at h; cases h
      | some x =>
        rw [h1, Option.bind_some] at h
        injection h with h
        subst h
        rw [run_same n _ _ _ h1 hj, Option.bind_some]
    · rename_i hq
      rw [if_neg hq]
      split at h
      · rename_i hq2
        rw [if_pos hq2]
        cases h1 : V.run n .unary s.adv with
        | none => rw [h1] at h; cases h
        | some x =>
          rw [h1, Option.bind_some] at h
          injection h with h
          subst h
          rw [run_same n _ _ _ h1 hj, Option.bind_some]
      · rename_i hq2
        rw [if_neg hq2, run_same n _ _ _ h hj]
  | n + 1, .prim, s, o, h, hj => by
    have js : Agree V V' s.i := hj.down (run_fine V _ _ _ _ h).later.le
    unfold Env.run at h ⊢
    rw [js.word, js.kind, js.num]
    split at h
    · rename_i q1
      rw [if_pos q1]
      exact h
    · rename_i q1
      rw [if_neg q1]
      split at h
      · rename_i q2
        rw [if_pos q2]
        exact h
      · rename_i q2
        rw [if_neg q2]
        split at h
        · rename_i q3
          rw [if_pos q3]
          cases h1 : V.run n .choice (V.want [40] s.adv) with
          | none => rw [h1] at h; cases h
          | some y =>
            rw [h1, Option.bind_some] at h
            injection h with h
            subst h
            have l0 := (Later.want (V := V) (x := 40) (l := []) s.adv).le
            have l1 := (run_fine V _ _ _ _ h1).later.le
            have l2 := (Later.want (V := V) (x := 41) (l := []) y.2).le
            have j1 : Agree V V' s.adv.i := hj.down (by show s.adv.i ≤ (V.want [41] y.2).i; omega)
            have j2 : Agree V V' y.2.i := hj.down l2
            rw [j1.want, run_same n _ _ _ h1 j2, Option.bind_some, j2.want]
        · rename_i q3
          rw [if_neg q3]
          split at h
          · rename_i q4
            rw [if_pos q4]
            cases h1 : V.run n .choice s.adv with
            | none => rw [h1] at h; cases h
            | some y =>
              rw [h1, Option.bind_some] at h
              injection h with h
              subst h
              have l2 := (Later.want (V := V) (x := 41) (l := []) y.2).le
              have j2 : Agree V V' y.2.i := hj.down l2
              rw [run_same n _ _ _ h1 j2, Option.bind_some, j2.want]
          · rename_i q4
            rw [if_neg q4]
            split at h
            · rename_i q5
              rw [if_pos q5]
              injection h with h
              subst h
              rw [Agree.near hj]
            · rename_i q5
              rw [if_neg q5]
              injection h with h
              subst h
              rw [js.var]

/-! ### What every step keeps -/
structure Keeping (V : Env) (P : St → Prop) : Prop where
  adv : ∀ s, s.err = 0 ∧ s.i < V.ts.length → P s → P s.adv
  fail4 : ∀ s, P s → P (V.fail s 4)
  fail5 : ∀ s, V.word s ≠ [] → P s → P (V.fail s 5)
theorem word_bin {l : Bytes} {lv : Nat} (h : ¬ ((binF l).1 = 0 ∨ (binF l).2 ≠ (lv : Int))) : l ≠ [] := by
  rintro rfl
  rw [bin_nil] at h
  exact h (.inl rfl)
theorem word_fact {l : Bytes} (h : factF l ≠ 0) : l ≠ [] := by rintro rfl; exact h (by decide)
theorem word_agg {l : Bytes} (h : aggW l ≠ 0) : l ≠ [] := by rintro rfl; exact h (by decide)
theorem word_field {l : Bytes} (h : fieldF l ≠ 0) : l ≠ [] := by rintro rfl; exact h (by decide)
theorem in_of {V : Env} {s : St} (h : V.word s ≠ []) : s.err = 0 ∧ s.i < V.ts.length := by
  obtain ⟨x, r, hx⟩ := not_nil h
  exact word_in hx
theorem Keeping.want {V : Env} {P : St → Prop} (K : Keeping V P) {x : UInt8} {l : Bytes} {s : St} (h : P s) : P (V.want (x :: l) s) := by
  unfold Env.want
  split
  · rename_i hw
    exact K.adv _ (word_in hw) h
  · exact K.fail4 _ h
theorem Keeping.var {V : Env} {P : St → Prop} (K : Keeping V P) {op : Int} {s : St} (h : P s) : P (V.var op s).2 := by
  unfold Env.var
  split
  · exact K.fail4 _ h
  · rename_i hw
    have hn : V.word s ≠ [] := by
      intro e
      rw [e] at hw
      exact hw rfl
    split
    · exact K.fail5 _ hn h
    · exact K.adv _ (in_of hn) h
theorem Keeping.near {V : Env} {P : St → Prop} (K : Keeping V P) {s : St} (h : P s) : P (V.near s).2 := by
  unfold Env.near
  split
  · rename_i hw
    have h1 := K.adv _ (word_in hw) h
    split
    · rename_i h2
      exact K.adv _ (in_of (word_field h2)) h1
    · exact K.var h1
  · exact h
theorem run_keeps {V : Env} {P : St → Prop} (K : Keeping V P) : ∀ (n : Nat) (g : Go6) (s : St) (o : Out), V.run n g s = some o → P s → P o.2
  | 0, g, s, o, h, _ => by unfold Env.run at h; cases h
  | n + 1, .choice, s, o, h, hs => by
    unfold Env.run at h
    cases h1 : V.run n (.bin 2) s with
    | none => rw [h1] at h; cases h
    | some c =>
      rw [h1, Option.bind_some] at h
      have p1 := run_keeps K n _ _ _ h1 hs
      split at h
      · rename_i hq
        cases h2 : V.run n .choice c.2.adv with
        | none => rw [h2] at h; cases h
        | some a =>
          rw [h2, Option.bind_some] at h
          cases h3 : V.run n .choice (V.want [58] a.2) with
          | none => rw [h3] at h; cases h
          | some b =>
            rw [h3, Option.bind_some] at h
            injection h with h
            subst h
            have p3 := run_keeps K n _ _ _ h3 (K.want (run_keeps K n _ _ _ h2 (K.adv _ (word_in hq) p1)))
            exact p3
      · injection h with h
        subst h
        exact p1
  | n + 1, .bin lv, s, o, h, hs => by
    unfold Env.run at h
    split at h
    · exact run_keeps K n _ _ _ h hs
    · cases h1 : V.run n (.bin (lv + 1)) s with
      | none => rw [h1] at h; cases h
      | some l =>
        rw [h1, Option.bind_some] at h
        exact run_keeps K n _ _ _ h (run_keeps K n _ _ _ h1 hs)
  | n + 1, .more lv l, s, o, h, hs => by
    unfold Env.run at h
    split at h
    · injection h with h
      subst h
      exact hs
    · rename_i hq
      cases h1 : V.run n (.bin (lv + 1)) s.adv with
      | none => rw [h1] at h; cases h
      | some r =>
        rw [h1, Option.bind_some] at h
        have p1 := run_keeps K n _ _ _ h1 (K.adv _ (in_of (word_bin hq)) hs)
        split at h
        · injection h with h
          subst h
          exact p1
        · exact run_keeps K n _ _ _ h p1
  | n + 1, .unary, s, o, h, hs => by
    unfold Env.run at h
    split at h
    · rename_i hq
      cases h1 : V.run n .unary s.adv with
      | none => rw [h1] at h; cases h
      | some x =>
        rw [h1, Option.bind_some] at h
        injection h with h
        subst h
        have p1 := run_keeps K n _ _ _ h1 (K.adv _ (word_in hq) hs)
        exact p1
    · split at h
      · rename_i hq
        cases h1 : V.run n .unary s.adv with
        | none => rw [h1] at h; cases h
        | some x =>
          rw [h1, Option.bind_some] at h
          injection h with h
          subst h
          have p1 := run_keeps K n _ _ _ h1 (K.adv _ (word_in hq) hs)
          exact p1
      · exact run_keeps K n _ _ _ h hs
  | n + 1, .prim, s, o, h, hs => by
    unfold Env.run at h
    split at h
    · rename_i q
      injection h with h
      subst h
      exact K.adv _ (kind_in (by omega)) hs
    · split at h
      · rename_i q
        injection h with h
        subst h
        exact K.adv _ (in_of (word_fact q)) hs
      · split at h
        · rename_i q
          cases h1 : V.run n .choice (V.want [40] s.adv) with
          | none => rw [h1] at h; cases h
          | some y =>
            rw [h1, Option.bind_some] at h
            injection h with h
            subst h
            exact K.want (run_keeps K n _ _ _ h1 (K.want (K.adv _ (in_of (word_agg q)) hs)))
        · split at h
          · rename_i q
            cases h1 : V.run n .choice s.adv with
            | none => rw [h1] at h; cases h
            | some y =>
              rw [h1, Option.bind_some] at h
              injection h with h
              subst h
              exact K.want (run_keeps K n _ _ _ h1 (K.adv _ (word_in q) hs))
          · split at h
            · rename_i q
              injection h with h
              subst h
              exact K.near (K.adv _ (word_in q) hs)
            · injection h with h
              subst h
              exact K.var hs
/-- an error stands where reading ended; it is a wrong token, or an unknown name -/
def Told (V : Env) (s : St) : Prop := s.err = 0 ∨ ((s.err = 4 ∨ s.err = 5 ∧ s.i < V.ts.length) ∧ s.place = V.here s)
theorem told_keeps (V : Env) : Keeping V (Told V) where
  adv := fun s h _ => .inl h.1
  fail4 := fun s h => by
    unfold Env.fail
    split
    · exact h
    · exact .inr ⟨.inl rfl, rfl⟩
  fail5 := fun s hw h => by
    unfold Env.fail
    split
    · exact h
    · exact .inr ⟨.inr ⟨rfl, (in_of hw).2⟩, rfl⟩
theorem run_told {V : Env} {n : Nat} {g : Go6} {s : St} {o : Out} (h : V.run n g s = some o) (hs : s.err = 0) : Told V o.2 := run_keeps (told_keeps V) n g s o h (.inl hs)
end Go.Proofs.YtdbahiepihkagaaGreatDoor
