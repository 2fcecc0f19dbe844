/- A row of names in memory; what Index, Good, level and Decimal of the specification of layer 6 answer. -/
import Derived.Test.YtdbahiepihkagaaGreatDoorExprTree
import Derived.Test.YtdbahiepihkagaaGreatDoorExprSame
import Derived.Deep.QuietTactic
import Derived.BigQuiet
namespace Go.Proofs.YtdbahiepihkagaaGreatDoor
set_option maxRecDepth 100000

/-! ### The table of words -/
/-- the first operation from one on, of so many, that is written so; 0 if there is none -/
def opG (l : Bytes) : Nat → Nat → Nat
  | _, 0 => 0
  | op, n + 1 => if wordF (op : Int) = l then op else opG l (op + 1) n
def opF (a n : Nat) (l : Bytes) : Nat := if l = [] then 0 else opG l a n
theorem opG_skip {l : Bytes} : ∀ {n k a : Nat}, k ≤ n → (∀ j, j < k → wordF ((a + j : Nat) : Int) ≠ l) → opG l a n = opG l (a + k) (n - k)
  | _, 0, _, _, _ => rfl
  | 0, k + 1, _, h, _ => by omega
  | n + 1, k + 1, a, h, hj => by
    have h0 := hj 0 (by omega)
    rw [Nat.add_zero] at h0
    rw [opG, if_neg h0, opG_skip (n := n) (k := k) (a := a + 1) (by omega) (fun j hk => by
      have := hj (j + 1) (by omega)
      rwa [show a + (j + 1) = a + 1 + j by omega] at this)]
    congr 1 <;> omega
theorem opG_hit {l : Bytes} {n k a : Nat} (h : k < n) (hj : ∀ j, j < k → wordF ((a + j : Nat) : Int) ≠ l) (hk : wordF ((a + k : Nat) : Int) = l) : opG l a n = a + k := by
  rw [opG_skip (Nat.le_of_lt h) hj, show n - k = (n - k - 1) + 1 by omega, opG, if_pos hk]
theorem opG_miss {l : Bytes} {n a : Nat} (hj : ∀ j, j < n → wordF ((a + j : Nat) : Int) ≠ l) : opG l a n = 0 := by
  rw [opG_skip (Nat.le_refl _) hj, Nat.sub_self, opG]
theorem opG_le (l : Bytes) : ∀ (n a : Nat), opG l a n ≤ a + n
  | 0, a => Nat.zero_le _
  | n + 1, a => by
    rw [opG]
    split
    · omega
    · have := opG_le l n (a + 1)
      omega
theorem opF_le (a n : Nat) (l : Bytes) : opF a n l ≤ a + n := by
  unfold opF
  split
  · omega
  · exact opG_le _ _ _
theorem look_cons (x : Bytes × Int) (T : List (Bytes × Int)) (l : Bytes) : lookW (x :: T) l = if x.1 = l then x.2 else lookW T l := by
  unfold lookW
  rw [List.find?_cons]
  by_cases h : x.1 = l
  · have : (x.1 == l) = true := by simpa using h
    rw [this, if_pos h]
    rfl
  · have : (x.1 == l) = false := by simpa using h
    rw [this, if_neg h]
def tabW : Nat → Nat → List (Bytes × Int)
  | _, 0 => []
  | op, n + 1 => (wordF (op : Int), (op : Int)) :: tabW (op + 1) n
theorem opG_tab (l : Bytes) : ∀ (n a : Nat), ((opG l a n : Nat) : Int) = lookW (tabW a n) l
  | 0, _ => rfl
  | n + 1, a => by
    rw [opG, tabW, look_cons]
    split
    · rfl
    · exact opG_tab l n (a + 1)
theorem look_pre (l : Bytes) : ∀ T : List (Bytes × Int), lookW (T.map fun x => (113 :: 46 :: x.1, x.2)) (113 :: 46 :: l) = lookW T l
  | [] => rfl
  | x :: T => by
    rw [List.map_cons, look_cons, look_cons, look_pre l T]
    by_cases h : x.1 = l
    · rw [if_pos h, if_pos (by rw [h])]
    · rw [if_neg h, if_neg (fun e => h (List.cons.inj (List.cons.inj e).2).2)]
theorem look_hole {l : Bytes} (h : l ≠ []) (k : Int) (T : List (Bytes × Int)) : lookW (([], k) :: T) l = lookW T l := by
  rw [look_cons, if_neg (fun e => h e.symm)]
theorem look_congr {l : Bytes} {T T' : List (Bytes × Int)} (x : Bytes × Int) (h : lookW T l = lookW T' l) : lookW (x :: T) l = lookW (x :: T') l := by
  rw [look_cons, look_cons, h]
theorem opF_fact (l : Bytes) : ((opF 2 9 l : Nat) : Int) = factF l := by
  unfold opF
  by_cases h : l = []
  · subst h
    decide
  rw [if_neg h, opG_tab]
  exact look_congr _ (look_congr _ (look_congr _ (look_hole h 5 _)))
theorem opF_agg (l : Bytes) : ((opF 20 10 l : Nat) : Int) = aggW l := by
  unfold opF
  by_cases h : l = []
  · subst h
    decide
  rw [if_neg h, opG_tab]
  exact congrArg (fun T => lookW T l) (show tabW 20 10 = aggT by decide)
theorem opF_field (l : Bytes) : ((opF 13 5 (113 :: 46 :: l) : Nat) : Int) = fieldF l := by
  unfold opF
  rw [if_neg (by simp), opG_tab, show tabW 13 5 = fieldT.map (fun x => (113 :: 46 :: x.1, x.2)) by decide, look_pre]
  rfl
/-- the sign in front of a unary -/
theorem opF_neg (l : Bytes) : opF 18 2 l = if l = [45] then 18 else if l = [33] then 19 else 0 := by
  by_cases h1 : l = [45]
  · subst h1
    decide
  by_cases h2 : l = [33]
  · subst h2
    decide
  rw [if_neg h1, if_neg h2]
  unfold opF
  split
  · rfl
  · refine opG_miss fun j hj e => ?_
    rcases (by omega : j = 0 ∨ j = 1) with rfl | rfl
    · exact h1 e.symm
    · exact h2 e.symm
/-- the binary signs -/
def signL : List Bytes := [[42], [47], [37], [43], [45], [61, 61], [33, 61], [60], [60, 61], [62], [62, 61], [38, 38], [124, 124]]
theorem sign_in {l : Bytes} (h : l ∈ signL) : (binF l).1 = ((opF 30 13 l : Nat) : Int) ∧ (binF l).1 ≠ 0 ∧ (binF l).2 = ((lvF ((opF 30 13 l : Nat) : Int) : Nat) : Int) := by
  have : ∀ x ∈ signL, (binF x).1 = ((opF 30 13 x : Nat) : Int) ∧ (binF x).1 ≠ 0 ∧ (binF x).2 = ((lvF ((opF 30 13 x : Nat) : Int) : Nat) : Int) := by decide
  exact this l h
theorem sign_out {l : Bytes} (h : l ∉ signL) : (binF l).1 = 0 ∧ opF 30 13 l = 0 := by
  constructor
  · unfold binF lookT
    rw [List.find?_eq_none.2]
    · rfl
    · intro x hx
      have : ∀ x ∈ signT, x.1 ∈ signL := by decide
      simp only [beq_iff_eq]
      intro e
      exact h (by rw [← e]; exact this x hx)
  · unfold opF
    split
    · rfl
    · refine opG_miss fun j hj e => h ?_
      have : ∀ j, j < 13 → wordF ((30 + j : Nat) : Int) ∈ signL := by decide
      rw [← e]
      exact this j hj
/-- the operation of a level that a word is -/
def signP (lv : Nat) (l : Bytes) : Nat := if lvF ((opF 30 13 l : Nat) : Int) = lv then opF 30 13 l else 0
theorem signP_iff {lv : Nat} (h1 : 1 ≤ lv) (h7 : lv ≤ 7) (l : Bytes) : (signP lv l = 0 ↔ ((binF l).1 = 0 ∨ (binF l).2 ≠ (lv : Int))) ∧ (signP lv l ≠ 0 → ((signP lv l : Nat) : Int) = (binF l).1) := by
  unfold signP
  by_cases h : l ∈ signL
  · obtain ⟨e1, e2, e3⟩ := sign_in h
    rw [← e1] at e3
    rw [← e1]
    have hz : opF 30 13 l ≠ 0 := by omega
    split
    · rename_i e4
      rw [e3, e4]
      exact ⟨⟨fun e => absurd e hz, fun e => by rcases e with e | e; exact absurd e e2; exact absurd rfl e⟩, fun _ => e1.symm⟩
    · rename_i e4
      rw [e3]
      exact ⟨⟨fun _ => .inr (by omega), fun _ => rfl⟩, fun e => absurd rfl e⟩
  · obtain ⟨e1, e2⟩ := sign_out h
    rw [e2, e1]
    have e8 : lvF ((0 : Nat) : Int) = 8 := by decide
    rw [e8, if_neg (by omega)]
    exact ⟨⟨fun _ => .inl rfl, fun _ => rfl⟩, fun e => absurd rfl e⟩

/-! ### Readings without an error -/
theorem run_bad {V : Env} {n : Nat} {g : Go6} {s : St} {o : Out} (h : V.run n g s = some o) (he : s.err ≠ 0) : o.2 = s := (run_fine V n g s o h).later.stay he
theorem run_good {V : Env} {n : Nat} {g : Go6} {s : St} {o : Out} (h : V.run n g s = some o) (he : o.2.err = 0) : s.err = 0 := by
  by_cases h0 : s.err = 0
  · exact h0
  · rw [run_bad h h0] at he
    exact absurd he h0
theorem fail_err (V : Env) (s : St) {e : Nat} (he : e ≠ 0) : (V.fail s e).err ≠ 0 := by
  unfold Env.fail
  split
  · assumption
  · exact he
theorem want_good {V : Env} {x : UInt8} {l : Bytes} {s : St} (h : (V.want (x :: l) s).err = 0) : V.word s = x :: l ∧ V.want (x :: l) s = s.adv := by
  unfold Env.want at h ⊢
  split at h
  · rename_i hq
    rw [if_pos hq]
    exact ⟨hq, rfl⟩
  · exact absurd h (fail_err V s (by decide))
theorem var_good {V : Env} {op : Int} {s : St} (h : (V.var op s).2.err = 0) : ∃ x, V.var op s = ([(op, ((x : Nat) : Int))], s.adv) ∧ nameF (V.word s) = true ∧ idxN V.ns (V.word s) = some x := by
  unfold Env.var at h ⊢
  split at h
  · exact absurd h (fail_err V s (by decide))
  · rename_i hn
    rw [if_neg hn]
    cases hx : idxN V.ns (V.word s) with
    | none => rw [hx] at h; exact absurd h (fail_err V s (by decide))
    | some x => exact ⟨x, rfl, by simpa using hn, rfl⟩
/-- a reading without an error has a list that is not empty -/
theorem run_some (V : Env) : ∀ (n : Nat) (g : Go6) (s : St) (o : Out), V.run n g s = some o → o.2.err = 0 → (∀ lv l, g = .more lv l → l ≠ []) → o.1 ≠ []
  | 0, g, s, o, h, _, _ => by unfold Env.run at h; cases h
  | n + 1, .choice, s, o, h, he, _ => by
    unfold Env.run at h
    cases h1 : V.run n (.bin 2) s with
    | none => rw [h1] at h; cases h
    | some c =>
      rw [h1, Option.bind_some] at h
      split at h
      · cases h2 : V.run n .choice c.2.adv with
        | none => rw [h2] at h; cases h
        | some a =>
          rw [h2, Option.bind_some] at h
          cases h3 : V.run n .choice (V.want [58] a.2) with
          | none => rw [h3] at h; cases h
          | some b =>
            rw [h3, Option.bind_some] at h
            injection h with h
            subst h
            simp
      · injection h with h
        subst h
        exact run_some V n _ _ _ h1 he (fun _ _ e => by injection e)
  | n + 1, .bin lv, s, o, h, he, _ => by
    unfold Env.run at h
    split at h
    · exact run_some V n _ _ _ h he (fun _ _ e => by injection e)
    · cases h1 : V.run n (.bin (lv + 1)) s with
      | none => rw [h1] at h; cases h
      | some l =>
        rw [h1, Option.bind_some] at h
        have hl := run_good h he
        have h2 := run_some V n _ _ _ h1 hl (fun _ _ e => by injection e)
        exact run_some V n _ _ _ h he (fun _ _ e => by injection e with _ e; rw [← e]; exact h2)
  | n + 1, .more lv l, s, o, h, he, hl => by
    unfold Env.run at h
    split at h
    · injection h with h
      subst h
      exact hl _ _ rfl
    · cases h1 : V.run n (.bin (lv + 1)) s.adv with
      | none => rw [h1] at h; cases h
      | some r =>
        rw [h1, Option.bind_some] at h
        split at h
        · injection h with h
          subst h
          simp
        · exact run_some V n _ _ _ h he (fun _ _ e => by injection e with _ e; rw [← e]; simp)
  | n + 1, .unary, s, o, h, he, _ => by
    unfold Env.run at h
    split at h
    · cases h1 : V.run n .unary s.adv with
      | none => rw [h1] at h; cases h
      | some x =>
        rw [h1, Option.bind_some] at h
        injection h with h
        subst h
        simp
    · split at h
      · cases h1 : V.run n .unary s.adv with
        | none => rw [h1] at h; cases h
        | some x =>
          rw [h1, Option.bind_some] at h
          injection h with h
          subst h
          simp
      · exact run_some V n _ _ _ h he (fun _ _ e => by injection e)
  | n + 1, .prim, s, o, h, he, _ => by
    unfold Env.run at h
    split at h
    · injection h with h
      subst h
      simp
    · split at h
      · injection h with h
        subst h
        simp
      · split at h
        · cases h1 : V.run n .choice (V.want [40] s.adv) with
          | none => rw [h1] at h; cases h
          | some y =>
            rw [h1, Option.bind_some] at h
            injection h with h
            subst h
            simp
        · split at h
          · cases h1 : V.run n .choice s.adv with
            | none => rw [h1] at h; cases h
            | some y =>
              rw [h1, Option.bind_some] at h
              injection h with h
              subst h
              have hw := (want_good he).1
              have hy : y.2.err = 0 := (word_in hw).1
              show y.1 ≠ []
              exact run_some V n .choice s.adv y h1 hy (fun _ _ e => by injection e)
          · split at h
            · injection h with h
              subst h
              unfold Env.near at he ⊢
              split
              · rename_i h46
                rw [if_pos h46] at he
                split
                · simp
                · rename_i hf
                  rw [if_neg hf] at he
                  obtain ⟨x, e, _⟩ := var_good he
                  rw [e]
                  simp
              · simp
            · injection h with h
              subst h
              obtain ⟨x, e, _⟩ := var_good he
              rw [e]
              simp
end Go.Proofs.YtdbahiepihkagaaGreatDoor
namespace Go.Proofs.YtdbahiepihkagaaGreatDoor
set_option maxRecDepth 100000
open Go.RowKit

theorem fact_or (T : Bytes) : factF T = cond (T == [116, 114, 117, 101]) 2 (cond (T == [102, 97, 108, 115, 101]) 3 (cond (T == [110, 111, 110, 101]) 4 (cond (T == [110]) 6 (cond (T == [105, 100, 115]) 7 (cond (T == [105, 100]) 8 (cond (T == [100, 101, 103]) 9 (cond (T == [114, 111, 111, 116]) 10 0))))))) := by
  unfold factF lookW factT
  simp only [List.find?]
  rw [show ([116, 114, 117, 101] == T) = (T == [116, 114, 117, 101]) from BEq.comm]
  cases hc0 : T == [116, 114, 117, 101]
  rotate_left
  · rfl
  rw [show ([102, 97, 108, 115, 101] == T) = (T == [102, 97, 108, 115, 101]) from BEq.comm]
  cases hc1 : T == [102, 97, 108, 115, 101]
  rotate_left
  · rfl
  rw [show ([110, 111, 110, 101] == T) = (T == [110, 111, 110, 101]) from BEq.comm]
  cases hc2 : T == [110, 111, 110, 101]
  rotate_left
  · rfl
  rw [show ([110] == T) = (T == [110]) from BEq.comm]
  cases hc3 : T == [110]
  rotate_left
  · rfl
  rw [show ([105, 100, 115] == T) = (T == [105, 100, 115]) from BEq.comm]
  cases hc4 : T == [105, 100, 115]
  rotate_left
  · rfl
  rw [show ([105, 100] == T) = (T == [105, 100]) from BEq.comm]
  cases hc5 : T == [105, 100]
  rotate_left
  · rfl
  rw [show ([100, 101, 103] == T) = (T == [100, 101, 103]) from BEq.comm]
  cases hc6 : T == [100, 101, 103]
  rotate_left
  · rfl
  rw [show ([114, 111, 111, 116] == T) = (T == [114, 111, 111, 116]) from BEq.comm]
  cases hc7 : T == [114, 111, 111, 116]
  rotate_left
  · rfl
  rfl
set_option maxHeartbeats 2000000 in
theorem factR_any (s : ByteArray) (w : World) : Calls Tryz.prog 194 #[.string s] w fun e w' => e = .returned (.int .i64 (factF s.data.toList)) ∧ w' = w := by
  have hT : s.toList = s.data.toList := by rw [ByteArray.toList_eq]
  generalize s.data.toList = T at *
  have HR := Lib.hid (fact_or T)
  generalize factF T = z at *
  generalize hc0 : (T == [116, 114, 117, 101]) = c0 at HR
  generalize hc1 : (T == [102, 97, 108, 115, 101]) = c1 at HR
  generalize hc2 : (T == [110, 111, 110, 101]) = c2 at HR
  generalize hc3 : (T == [110]) = c3 at HR
  generalize hc4 : (T == [105, 100, 115]) = c4 at HR
  generalize hc5 : (T == [105, 100]) = c5 at HR
  generalize hc6 : (T == [100, 101, 103]) = c6 at HR
  generalize hc7 : (T == [114, 111, 111, 116]) = c7 at HR
  cases c0
  rotate_left
  · go_enter Tryz.func194, Tryz.ntmps194
    go_wp2
    go_ret
    exact ⟨by rw [HR.out]; rfl, rfl⟩
  cases c1
  rotate_left
  · go_enter Tryz.func194, Tryz.ntmps194
    go_wp2
    go_ret
    exact ⟨by rw [HR.out]; rfl, rfl⟩
  cases c2
  rotate_left
  · go_enter Tryz.func194, Tryz.ntmps194
    go_wp2
    go_ret
    exact ⟨by rw [HR.out]; rfl, rfl⟩
  cases c3
  rotate_left
  · go_enter Tryz.func194, Tryz.ntmps194
    go_wp2
    go_ret
    exact ⟨by rw [HR.out]; rfl, rfl⟩
  cases c4
  rotate_left
  · go_enter Tryz.func194, Tryz.ntmps194
    go_wp2
    go_ret
    exact ⟨by rw [HR.out]; rfl, rfl⟩
  cases c5
  rotate_left
  · go_enter Tryz.func194, Tryz.ntmps194
    go_wp2
    go_ret
    exact ⟨by rw [HR.out]; rfl, rfl⟩
  cases c6
  rotate_left
  · go_enter Tryz.func194, Tryz.ntmps194
    go_wp2
    go_ret
    exact ⟨by rw [HR.out]; rfl, rfl⟩
  cases c7
  rotate_left
  · go_enter Tryz.func194, Tryz.ntmps194
    go_wp2
    go_ret
    exact ⟨by rw [HR.out]; rfl, rfl⟩
  go_enter Tryz.func194, Tryz.ntmps194
  go_wp2
  go_ret
  exact ⟨by rw [HR.out]; rfl, rfl⟩
theorem field_or (T : Bytes) : fieldF T = cond (T == [105, 100]) 13 (cond (T == [100, 101, 103]) 14 (cond (T == [114, 111, 111, 116]) 15 (cond (T == [119, 101, 105, 103, 104, 116]) 16 (cond (T == [98, 97, 99, 107]) 17 0)))) := by
  unfold fieldF lookW fieldT
  simp only [List.find?]
  rw [show ([105, 100] == T) = (T == [105, 100]) from BEq.comm]
  cases hc0 : T == [105, 100]
  rotate_left
  · rfl
  rw [show ([100, 101, 103] == T) = (T == [100, 101, 103]) from BEq.comm]
  cases hc1 : T == [100, 101, 103]
  rotate_left
  · rfl
  rw [show ([114, 111, 111, 116] == T) = (T == [114, 111, 111, 116]) from BEq.comm]
  cases hc2 : T == [114, 111, 111, 116]
  rotate_left
  · rfl
  rw [show ([119, 101, 105, 103, 104, 116] == T) = (T == [119, 101, 105, 103, 104, 116]) from BEq.comm]
  cases hc3 : T == [119, 101, 105, 103, 104, 116]
  rotate_left
  · rfl
  rw [show ([98, 97, 99, 107] == T) = (T == [98, 97, 99, 107]) from BEq.comm]
  cases hc4 : T == [98, 97, 99, 107]
  rotate_left
  · rfl
  rfl
set_option maxHeartbeats 2000000 in
theorem fieldR_any (s : ByteArray) (w : World) : Calls Tryz.prog 197 #[.string s] w fun e w' => e = .returned (.int .i64 (fieldF s.data.toList)) ∧ w' = w := by
  have hT : s.toList = s.data.toList := by rw [ByteArray.toList_eq]
  generalize s.data.toList = T at *
  have HR := Lib.hid (field_or T)
  generalize fieldF T = z at *
  generalize hc0 : (T == [105, 100]) = c0 at HR
  generalize hc1 : (T == [100, 101, 103]) = c1 at HR
  generalize hc2 : (T == [114, 111, 111, 116]) = c2 at HR
  generalize hc3 : (T == [119, 101, 105, 103, 104, 116]) = c3 at HR
  generalize hc4 : (T == [98, 97, 99, 107]) = c4 at HR
  cases c0
  rotate_left
  · go_enter Tryz.func197, Tryz.ntmps197
    go_wp2
    go_ret
    exact ⟨by rw [HR.out]; rfl, rfl⟩
  cases c1
  rotate_left
  · go_enter Tryz.func197, Tryz.ntmps197
    go_wp2
    go_ret
    exact ⟨by rw [HR.out]; rfl, rfl⟩
  cases c2
  rotate_left
  · go_enter Tryz.func197, Tryz.ntmps197
    go_wp2
    go_ret
    exact ⟨by rw [HR.out]; rfl, rfl⟩
  cases c3
  rotate_left
  · go_enter Tryz.func197, Tryz.ntmps197
    go_wp2
    go_ret
    exact ⟨by rw [HR.out]; rfl, rfl⟩
  cases c4
  rotate_left
  · go_enter Tryz.func197, Tryz.ntmps197
    go_wp2
    go_ret
    exact ⟨by rw [HR.out]; rfl, rfl⟩
  go_enter Tryz.func197, Tryz.ntmps197
  go_wp2
  go_ret
  exact ⟨by rw [HR.out]; rfl, rfl⟩
theorem aggw_or (T : Bytes) : aggW T = cond (T == [97, 108, 108]) 20 (cond (T == [115, 111, 109, 101]) 21 (cond (T == [99, 111, 117, 110, 116]) 22 (cond (T == [102, 105, 114, 115, 116]) 23 (cond (T == [109, 105, 110]) 24 (cond (T == [109, 97, 120]) 25 (cond (T == [115, 117, 109]) 26 (cond (T == [109, 101, 120]) 27 (cond (T == [115, 101, 99, 111, 110, 100]) 28 (cond (T == [104, 101, 97, 100]) 29 0))))))))) := by
  unfold aggW lookW aggT
  simp only [List.find?]
  rw [show ([97, 108, 108] == T) = (T == [97, 108, 108]) from BEq.comm]
  cases hc0 : T == [97, 108, 108]
  rotate_left
  · rfl
  rw [show ([115, 111, 109, 101] == T) = (T == [115, 111, 109, 101]) from BEq.comm]
  cases hc1 : T == [115, 111, 109, 101]
  rotate_left
  · rfl
  rw [show ([99, 111, 117, 110, 116] == T) = (T == [99, 111, 117, 110, 116]) from BEq.comm]
  cases hc2 : T == [99, 111, 117, 110, 116]
  rotate_left
  · rfl
  rw [show ([102, 105, 114, 115, 116] == T) = (T == [102, 105, 114, 115, 116]) from BEq.comm]
  cases hc3 : T == [102, 105, 114, 115, 116]
  rotate_left
  · rfl
  rw [show ([109, 105, 110] == T) = (T == [109, 105, 110]) from BEq.comm]
  cases hc4 : T == [109, 105, 110]
  rotate_left
  · rfl
  rw [show ([109, 97, 120] == T) = (T == [109, 97, 120]) from BEq.comm]
  cases hc5 : T == [109, 97, 120]
  rotate_left
  · rfl
  rw [show ([115, 117, 109] == T) = (T == [115, 117, 109]) from BEq.comm]
  cases hc6 : T == [115, 117, 109]
  rotate_left
  · rfl
  rw [show ([109, 101, 120] == T) = (T == [109, 101, 120]) from BEq.comm]
  cases hc7 : T == [109, 101, 120]
  rotate_left
  · rfl
  rw [show ([115, 101, 99, 111, 110, 100] == T) = (T == [115, 101, 99, 111, 110, 100]) from BEq.comm]
  cases hc8 : T == [115, 101, 99, 111, 110, 100]
  rotate_left
  · rfl
  rw [show ([104, 101, 97, 100] == T) = (T == [104, 101, 97, 100]) from BEq.comm]
  cases hc9 : T == [104, 101, 97, 100]
  rotate_left
  · rfl
  rfl
set_option maxHeartbeats 2000000 in
theorem aggwR_any (s : ByteArray) (w : World) : Calls Tryz.prog 195 #[.string s] w fun e w' => e = .returned (.int .i64 (aggW s.data.toList)) ∧ w' = w := by
  have hT : s.toList = s.data.toList := by rw [ByteArray.toList_eq]
  generalize s.data.toList = T at *
  have HR := Lib.hid (aggw_or T)
  generalize aggW T = z at *
  generalize hc0 : (T == [97, 108, 108]) = c0 at HR
  generalize hc1 : (T == [115, 111, 109, 101]) = c1 at HR
  generalize hc2 : (T == [99, 111, 117, 110, 116]) = c2 at HR
  generalize hc3 : (T == [102, 105, 114, 115, 116]) = c3 at HR
  generalize hc4 : (T == [109, 105, 110]) = c4 at HR
  generalize hc5 : (T == [109, 97, 120]) = c5 at HR
  generalize hc6 : (T == [115, 117, 109]) = c6 at HR
  generalize hc7 : (T == [109, 101, 120]) = c7 at HR
  generalize hc8 : (T == [115, 101, 99, 111, 110, 100]) = c8 at HR
  generalize hc9 : (T == [104, 101, 97, 100]) = c9 at HR
  cases c0
  rotate_left
  · go_enter Tryz.func195, Tryz.ntmps195
    go_wp2
    go_ret
    exact ⟨by rw [HR.out]; rfl, rfl⟩
  cases c1
  rotate_left
  · go_enter Tryz.func195, Tryz.ntmps195
    go_wp2
    go_ret
    exact ⟨by rw [HR.out]; rfl, rfl⟩
  cases c2
  rotate_left
  · go_enter Tryz.func195, Tryz.ntmps195
    go_wp2
    go_ret
    exact ⟨by rw [HR.out]; rfl, rfl⟩
  cases c3
  rotate_left
  · go_enter Tryz.func195, Tryz.ntmps195
    go_wp2
    go_ret
    exact ⟨by rw [HR.out]; rfl, rfl⟩
  cases c4
  rotate_left
  · go_enter Tryz.func195, Tryz.ntmps195
    go_wp2
    go_ret
    exact ⟨by rw [HR.out]; rfl, rfl⟩
  cases c5
  rotate_left
  · go_enter Tryz.func195, Tryz.ntmps195
    go_wp2
    go_ret
    exact ⟨by rw [HR.out]; rfl, rfl⟩
  cases c6
  rotate_left
  · go_enter Tryz.func195, Tryz.ntmps195
    go_wp2
    go_ret
    exact ⟨by rw [HR.out]; rfl, rfl⟩
  cases c7
  rotate_left
  · go_enter Tryz.func195, Tryz.ntmps195
    go_wp2
    go_ret
    exact ⟨by rw [HR.out]; rfl, rfl⟩
  cases c8
  rotate_left
  · go_enter Tryz.func195, Tryz.ntmps195
    go_wp2
    go_ret
    exact ⟨by rw [HR.out]; rfl, rfl⟩
  cases c9
  rotate_left
  · go_enter Tryz.func195, Tryz.ntmps195
    go_wp2
    go_ret
    exact ⟨by rw [HR.out]; rfl, rfl⟩
  go_enter Tryz.func195, Tryz.ntmps195
  go_wp2
  go_ret
  exact ⟨by rw [HR.out]; rfl, rfl⟩
theorem sign_or (T : Bytes) : binF T = cond (T == [124, 124]) (42, 2) (cond (T == [38, 38]) (41, 3) (cond (T == [61, 61]) (35, 4) (cond (T == [33, 61]) (36, 4) (cond (T == [60]) (37, 4) (cond (T == [60, 61]) (38, 4) (cond (T == [62]) (39, 4) (cond (T == [62, 61]) (40, 4) (cond (T == [43]) (33, 5) (cond (T == [45]) (34, 5) (cond (T == [42]) (30, 6) (cond (T == [47]) (31, 6) (cond (T == [37]) (32, 6) (0, 0))))))))))))) := by
  unfold binF lookT signT
  simp only [List.find?]
  rw [show ([124, 124] == T) = (T == [124, 124]) from BEq.comm]
  cases hc0 : T == [124, 124]
  rotate_left
  · rfl
  rw [show ([38, 38] == T) = (T == [38, 38]) from BEq.comm]
  cases hc1 : T == [38, 38]
  rotate_left
  · rfl
  rw [show ([61, 61] == T) = (T == [61, 61]) from BEq.comm]
  cases hc2 : T == [61, 61]
  rotate_left
  · rfl
  rw [show ([33, 61] == T) = (T == [33, 61]) from BEq.comm]
  cases hc3 : T == [33, 61]
  rotate_left
  · rfl
  rw [show ([60] == T) = (T == [60]) from BEq.comm]
  cases hc4 : T == [60]
  rotate_left
  · rfl
  rw [show ([60, 61] == T) = (T == [60, 61]) from BEq.comm]
  cases hc5 : T == [60, 61]
  rotate_left
  · rfl
  rw [show ([62] == T) = (T == [62]) from BEq.comm]
  cases hc6 : T == [62]
  rotate_left
  · rfl
  rw [show ([62, 61] == T) = (T == [62, 61]) from BEq.comm]
  cases hc7 : T == [62, 61]
  rotate_left
  · rfl
  rw [show ([43] == T) = (T == [43]) from BEq.comm]
  cases hc8 : T == [43]
  rotate_left
  · rfl
  rw [show ([45] == T) = (T == [45]) from BEq.comm]
  cases hc9 : T == [45]
  rotate_left
  · rfl
  rw [show ([42] == T) = (T == [42]) from BEq.comm]
  cases hc10 : T == [42]
  rotate_left
  · rfl
  rw [show ([47] == T) = (T == [47]) from BEq.comm]
  cases hc11 : T == [47]
  rotate_left
  · rfl
  rw [show ([37] == T) = (T == [37]) from BEq.comm]
  cases hc12 : T == [37]
  rotate_left
  · rfl
  rfl
set_option maxHeartbeats 2000000 in
theorem signR_any (s : ByteArray) (w : World) : Calls Tryz.prog 141 #[.string s] w fun e w' => e = .returned (.tuple #[.int .i64 (binF s.data.toList).1, .int .i64 (binF s.data.toList).2]) ∧ w' = w := by
  have hT : s.toList = s.data.toList := by rw [ByteArray.toList_eq]
  generalize s.data.toList = T at *
  have HR := Lib.hid (sign_or T)
  generalize binF T = z at *
  generalize hc0 : (T == [124, 124]) = c0 at HR
  generalize hc1 : (T == [38, 38]) = c1 at HR
  generalize hc2 : (T == [61, 61]) = c2 at HR
  generalize hc3 : (T == [33, 61]) = c3 at HR
  generalize hc4 : (T == [60]) = c4 at HR
  generalize hc5 : (T == [60, 61]) = c5 at HR
  generalize hc6 : (T == [62]) = c6 at HR
  generalize hc7 : (T == [62, 61]) = c7 at HR
  generalize hc8 : (T == [43]) = c8 at HR
  generalize hc9 : (T == [45]) = c9 at HR
  generalize hc10 : (T == [42]) = c10 at HR
  generalize hc11 : (T == [47]) = c11 at HR
  generalize hc12 : (T == [37]) = c12 at HR
  cases c0
  rotate_left
  · go_enter Tryz.func141, Tryz.ntmps141
    go_wp2
    go_ret2
    exact ⟨by rw [HR.out]; rfl, rfl⟩
  cases c1
  rotate_left
  · go_enter Tryz.func141, Tryz.ntmps141
    go_wp2
    go_ret2
    exact ⟨by rw [HR.out]; rfl, rfl⟩
  cases c2
  rotate_left
  · go_enter Tryz.func141, Tryz.ntmps141
    go_wp2
    go_ret2
    exact ⟨by rw [HR.out]; rfl, rfl⟩
  cases c3
  rotate_left
  · go_enter Tryz.func141, Tryz.ntmps141
    go_wp2
    go_ret2
    exact ⟨by rw [HR.out]; rfl, rfl⟩
  cases c4
  rotate_left
  · go_enter Tryz.func141, Tryz.ntmps141
    go_wp2
    go_ret2
    exact ⟨by rw [HR.out]; rfl, rfl⟩
  cases c5
  rotate_left
  · go_enter Tryz.func141, Tryz.ntmps141
    go_wp2
    go_ret2
    exact ⟨by rw [HR.out]; rfl, rfl⟩
  cases c6
  rotate_left
  · go_enter Tryz.func141, Tryz.ntmps141
    go_wp2
    go_ret2
    exact ⟨by rw [HR.out]; rfl, rfl⟩
  cases c7
  rotate_left
  · go_enter Tryz.func141, Tryz.ntmps141
    go_wp2
    go_ret2
    exact ⟨by rw [HR.out]; rfl, rfl⟩
  cases c8
  rotate_left
  · go_enter Tryz.func141, Tryz.ntmps141
    go_wp2
    go_ret2
    exact ⟨by rw [HR.out]; rfl, rfl⟩
  cases c9
  rotate_left
  · go_enter Tryz.func141, Tryz.ntmps141
    go_wp2
    go_ret2
    exact ⟨by rw [HR.out]; rfl, rfl⟩
  cases c10
  rotate_left
  · go_enter Tryz.func141, Tryz.ntmps141
    go_wp2
    go_ret2
    exact ⟨by rw [HR.out]; rfl, rfl⟩
  cases c11
  rotate_left
  · go_enter Tryz.func141, Tryz.ntmps141
    go_wp2
    go_ret2
    exact ⟨by rw [HR.out]; rfl, rfl⟩
  cases c12
  rotate_left
  · go_enter Tryz.func141, Tryz.ntmps141
    go_wp2
    go_ret2
    exact ⟨by rw [HR.out]; rfl, rfl⟩
  go_enter Tryz.func141, Tryz.ntmps141
  go_wp2
  go_ret2
  exact ⟨by rw [HR.out]; rfl, rfl⟩
end Go.Proofs.YtdbahiepihkagaaGreatDoor
namespace Go.Proofs.YtdbahiepihkagaaGreatDoor
set_option maxRecDepth 100000
open Go.RowKit

def mkS (l : Bytes) : ByteArray := ⟨l.toArray⟩
theorem mkS_list (l : Bytes) : (mkS l).data.toList = l := by simp [mkS]
theorem mkS_data (s : ByteArray) : mkS s.data.toList = s := by cases s; simp [mkS]
theorem mkS_size (l : Bytes) : (mkS l).size = l.length := by simp [mkS, ByteArray.size]
theorem mkS_eq (l m : Bytes) : ((mkS l).toList == (mkS m).toList) = (l == m) := by
  rw [ByteArray.toList_eq, ByteArray.toList_eq, mkS_list, mkS_list]
theorem mkS_same (l : Bytes) : ((mkS l).toList == (mkS l).toList) = true := by simp
theorem mkS_not {l m : Bytes} (h : l ≠ m) : ((mkS l).toList == (mkS m).toList) = false := by rw [mkS_eq]; simpa using h
/-- a row of names -/
structure NamesAt (w : World) (a : Option Addr) (ns : List Bytes) : Prop where
  size : ns.length ≤ maxLen
  row : 0 < ns.length → ∃ b o, a = some ⟨b, o, none⟩ ∧ b < w.heap.size ∧ ∀ i, i < ns.length → w.cell? ⟨b, o + i, none⟩ = some (.string (mkS (ns.getD i [])))
theorem NamesAt.below {w w' : World} {B : Nat} {a : Option Addr} {ns : List Bytes} (h : NamesAt w a ns) (hb : Below B w w') (hB : B = w.heap.size) : NamesAt w' a ns := by
  subst hB
  refine ⟨h.size, fun h0 => ?_⟩
  obtain ⟨b, o, ha, hlt, hc⟩ := h.row h0
  exact ⟨b, o, ha, Nat.lt_of_lt_of_le hlt hb.size, fun i hi => (hb.cell (p := ⟨b, o + i, none⟩) hlt).trans (hc i hi)⟩
theorem NamesAt.take {w : World} {a : Option Addr} {ns : List Bytes} (h : NamesAt w a ns) (k : Nat) : NamesAt w a (ns.take k) := by
  refine ⟨by have := h.size; rw [List.length_take]; omega, fun h0 => ?_⟩
  rw [List.length_take] at h0
  obtain ⟨b, o, ha, hlt, hc⟩ := h.row (by omega)
  refine ⟨b, o, ha, hlt, fun i hi => ?_⟩
  rw [List.length_take] at hi
  rw [hc i (by omega)]
  simp only [List.getD_eq_getElem?_getD]
  rw [List.getElem?_take_of_lt (by omega)]
theorem idx_first : ∀ {ns : List Bytes} {l : Bytes} {k : Nat}, k < ns.length → (∀ j, j < k → ns.getD j [] ≠ l) → ns.getD k [] = l → idxI ns l = k
  | [], _, _, h, _, _ => by simp at h
  | x :: r, l, 0, _, _, h => by
    have : x = l := h
    unfold idxI idxN
    rw [if_pos this]
    first | done | rfl
  | x :: r, l, k + 1, hk, hj, h => by
    have h0 : x ≠ l := hj 0 (by omega)
    have ih := idx_first (ns := r) (l := l) (k := k) (by simpa using hk) (fun j h => hj (j + 1) (by omega)) h
    unfold idxI at ih ⊢
    unfold idxN
    rw [if_neg h0]
    cases hr : idxN r l with
    | none => rw [hr] at ih; dsimp only at ih; omega
    | some m =>
      rw [hr] at ih
      dsimp only at ih ⊢
      show ((m + 1 : Nat) : Int) = ((k + 1 : Nat) : Int)
      omega
theorem idx_none : ∀ {ns : List Bytes} {l : Bytes}, (∀ j, j < ns.length → ns.getD j [] ≠ l) → idxI ns l = -1
  | [], _, _ => rfl
  | x :: r, l, hj => by
    have h0 : x ≠ l := hj 0 (by simp)
    have ih := idx_none (ns := r) (l := l) (fun j h => hj (j + 1) (by simpa using h))
    unfold idxI at ih ⊢
    unfold idxN
    rw [if_neg h0]
    cases hr : idxN r l with
    | none => rfl
    | some m => rw [hr] at ih; dsimp only at ih; omega
set_option maxHeartbeats 1000000 in
theorem indexR_any (a : Option Addr) (c : Nat) (ns : List Bytes) (l : Bytes) (w : World) (hN : NamesAt w a ns) (hn : ns.length ≤ 1000000) :
    Calls Tryz.prog 74 #[.slice a ns.length c, .string (mkS l)] w fun e w' => e = .returned (.int .i64 (idxI ns l)) ∧ w' = w := by
  have HX := Lib.hid hN
  have HF := Lib.hid (fun (k : Nat) (h : k < ns.length) => idx_first (l := l) (k := k) h)
  have HO := Lib.hid (idx_none (ns := ns) (l := l))
  obtain ⟨m, hm⟩ : ∃ m, m = ns.length := ⟨_, rfl⟩
  have HM := Lib.hid hm
  obtain ⟨z, hz⟩ : ∃ z, z = idxI ns l := ⟨_, rfl⟩
  have HZ := Lib.hid hz
  rw [← hz, ← hm]
  rw [← hm] at hn
  clear hz hm hN
  go_enter Tryz.func74, Tryz.ntmps74
  go_wp2
  go_loop [5] (fun t => ∃ k : Nat, t = .int .i64 k ∧ k ≤ m ∧ (∀ j, j < k → ns.getD j [] ≠ l)) (fun t => m - (intOf t).toNat)
  case atStart => exact ⟨0, rfl, Nat.zero_le _, (fun j h => by omega)⟩
  case round =>
    obtain ⟨k, rfl, hk, hlow⟩ := hrel
    have HL := Lib.hid hlow
    clear hlow
    by_cases hlt : k < m
    · obtain ⟨b, o, rfl, hb, hc⟩ := HX.out.row (by rw [← HM.out]; omega)
      have hcell := hc k (by rw [← HM.out]; exact hlt)
      clear hc
      obtain ⟨x, hx⟩ : ∃ x, x = ns.getD k [] := ⟨_, rfl⟩
      rw [← hx] at hcell
      have HXk := Lib.hid hx
      clear hx
      by_cases he : x = l
      · subst he
        have hz : z = k := by rw [HZ.out]; exact HF.out k (by rw [← HM.out]; exact hlt) HL.out HXk.out.symm
        have hbeq := mkS_same x
        go_wp2
        go_ret
        exact ⟨by first | rfl | (rw [hz]; rfl), rfl⟩
      · have hbeq := mkS_not he
        go_wp2
        go_round
        case rel =>
          refine ⟨k + 1, by go_num, by omega, fun j hj => ?_⟩
          rcases Nat.lt_or_ge j k with h | h
          · exact HL.out j h
          · obtain rfl : j = k := by omega
            rw [← HXk.out]
            exact he
        case measure => simp [intOf]; omega
    · have hz : z = -1 := by
        rw [HZ.out]
        exact HO.out (fun j hj => HL.out j (by rw [← HM.out] at hj; omega))
      go_wp2
      go_ret
      exact ⟨by first | rfl | (rw [hz]; rfl), rfl⟩
theorem goodN_iff : ∀ {l done : List Bytes}, goodN done l = true ↔ ∀ i, i < l.length → nameF (l.getD i []) = true ∧ idxI (done ++ l.take i) (l.getD i []) < 0
  | [], _ => ⟨fun _ i h => by simp at h, fun _ => rfl⟩
  | x :: r, done => by
    unfold goodN
    simp only [Bool.and_eq_true, decide_eq_true_eq]
    rw [goodN_iff (l := r)]
    constructor
    · rintro ⟨⟨h1, h2⟩, h3⟩ i hi
      cases i with
      | zero => exact ⟨h1, by simpa using h2⟩
      | succ i =>
        have := h3 i (by simpa using hi)
        simpa using this
    · intro h
      have h0 := h 0 (by simp)
      refine ⟨⟨h0.1, by simpa using h0.2⟩, fun i hi => ?_⟩
      have := h (i + 1) (by simpa using hi)
      simpa using this
theorem good_yes {ns : List Bytes} (h6 : ns.length ≤ 6) (h : ∀ i, i < ns.length → nameF (ns.getD i []) = true ∧ idxI (ns.take i) (ns.getD i []) < 0) : goodF ns = true := by
  unfold goodF
  rw [Bool.and_eq_true, decide_eq_true_eq]
  exact ⟨h6, goodN_iff.2 h⟩
theorem good_no {ns : List Bytes} {i : Nat} (hi : i < ns.length) (h : nameF (ns.getD i []) = false ∨ 0 ≤ idxI (ns.take i) (ns.getD i [])) : goodF ns = false := by
  rw [Bool.eq_false_iff]
  intro hg
  unfold goodF at hg
  rw [Bool.and_eq_true, decide_eq_true_eq] at hg
  have := goodN_iff.1 hg.2 i hi
  rw [List.nil_append] at this
  rcases h with h | h
  · rw [h] at this
    cases this.1
  · omega
theorem good_long {ns : List Bytes} (h : 6 < ns.length) : goodF ns = false := by
  unfold goodF
  rw [Bool.and_eq_false_iff]
  left
  simpa using h
set_option maxHeartbeats 1000000 in
theorem goodR_any (a : Option Addr) (c : Nat) (ns : List Bytes) (w : World) (hN : NamesAt w a ns) (hc : ns.length ≤ c) (hn : ns.length ≤ 1000000) :
    Calls Tryz.prog 37 #[.slice a ns.length c] w fun e w' => e = .returned (.bool (goodF ns)) ∧ Below w.heap.size w w' := by
  have HX := Lib.hid hN
  have HY := Lib.hid (good_yes (ns := ns))
  have HO := Lib.hid (fun (i : Nat) (h : i < ns.length) => good_no (ns := ns) h)
  have HL := Lib.hid (good_long (ns := ns))
  obtain ⟨m, hm⟩ : ∃ m, m = ns.length := ⟨_, rfl⟩
  have HM := Lib.hid hm
  obtain ⟨z, hz⟩ : ∃ z, z = goodF ns := ⟨_, rfl⟩
  have HZ := Lib.hid hz
  rw [← hz, ← hm]
  rw [← hm] at hn hc
  clear hz hm hN
  by_cases h6 : 6 < m
  · have hz : z = false := by rw [HZ.out]; exact HL.out (by rw [← HM.out]; exact h6)
    subst hz
    go_enter Tryz.func37, Tryz.ntmps37
    go_wp2
    go_ret
    exact ⟨rfl, by first | exact Below.refl _ _ | exact belDraws (Below.refl _ _) _⟩
  go_enter Tryz.func37, Tryz.ntmps37
  go_wp2
  go_loopw [3] (fun t wr => ∃ k : Nat, t = .int .i64 k ∧ k ≤ m ∧ (∀ j, j < k → nameF (ns.getD j []) = true ∧ idxI (ns.take j) (ns.getD j []) < 0) ∧ Below w.heap.size w wr) (fun t _ => m - (intOf t).toNat)
  case atStart => exact ⟨0, rfl, Nat.zero_le _, (fun j h => by omega), by first | exact Below.refl _ _ | exact belDraws (Below.refl _ _) _⟩
  case round =>
    obtain ⟨k, rfl, hk, hlow, hbr⟩ := hrel
    have HLow := Lib.hid hlow
    clear hlow
    by_cases hlt : k < m
    · obtain ⟨b, o, rfl, hb, hcc⟩ := HX.out.row (by rw [← HM.out]; omega)
      have hce := hcc k (by rw [← HM.out]; exact hlt)
      clear hcc
      obtain ⟨x, hx⟩ : ∃ x, x = ns.getD k [] := ⟨_, rfl⟩
      rw [← hx] at hce
      have HXk := Lib.hid hx
      clear hx
      have HCE : Hid (∀ W, Below w.heap.size w W → W.cell? ⟨b, o + k, none⟩ = some (.string (mkS x))) := Lib.hid (fun W h => (h.cell (p := ⟨b, o + k, none⟩) hb).trans hce)
      clear hce
      have HNM := Lib.hid (fun W => nameR_any (mkS x) W)
      have hcell := HCE.out _ hbr
      have HI : Hid (∀ W, Below w.heap.size w W → ∀ c', Calls Tryz.prog 74 #[.slice (some ⟨b, o, none⟩) k c', .string (mkS x)] W fun e w' => e = .returned (.int .i64 (idxI (ns.take k) x)) ∧ w' = W) := Lib.hid (fun W h c' => by
        have e : (ns.take k).length = k := by rw [List.length_take]; have := HM.out; omega
        have := indexR_any (some ⟨b, o, none⟩) c' (ns.take k) x W ((HX.out.below h rfl).take k) (by omega)
        rwa [e] at this)
      have HBad : Hid (nameF x = false ∨ 0 ≤ idxI (ns.take k) x → z = false) := Lib.hid (fun h => by
        rw [HZ.out]
        exact HO.out k (by rw [← HM.out]; exact hlt) (by rw [← HXk.out]; exact h))
      have HStep : Hid (nameF x = true → idxI (ns.take k) x < 0 → ∀ j, j < k + 1 → nameF (ns.getD j []) = true ∧ idxI (ns.take j) (ns.getD j []) < 0) := Lib.hid (fun h1 h2 j hj => by
        rcases Nat.lt_or_ge j k with h | h
        · exact HLow.out j h
        · obtain rfl : j = k := by omega
          rw [← HXk.out]
          exact ⟨h1, h2⟩)
      generalize idxI (ns.take k) x = q at HI HBad HStep
      have hnm := fun W => nameR_any (mkS x) W
      rw [mkS_list] at hnm
      have HNM := Lib.hid hnm
      clear hnm HXk
      cases hf : nameF x with
      | false =>
        rw [hf] at HNM
        have hz := HBad.out (.inl hf)
        subst hz
        go_wp2_with fail
        go_quiet ((go_at_call 73; exact Calls.quiet_of_same (HNM.out _)))
        go_wp2
        go_ret
        exact ⟨rfl, by first | exact hbr | exact belDraws hbr _⟩
      | true =>
        rw [hf] at HNM
        by_cases hq : 0 ≤ q
        · have hz := HBad.out (.inr hq)
          subst hz
          go_wp2_with fail
          go_quiet ((first | (go_at_call 73; exact Calls.quiet_of_same (HNM.out _)) | (go_at_call 74; exact Calls.quiet_of_same (HI.out _ (by first | exact hbr | exact belDraws hbr _) _))))
          go_wp2
          go_ret
          exact ⟨rfl, by first | exact hbr | exact belDraws hbr _⟩
        · go_wp2_with fail
          go_quiet ((first | (go_at_call 73; exact Calls.quiet_of_same (HNM.out _)) | (go_at_call 74; exact Calls.quiet_of_same (HI.out _ (by first | exact hbr | exact belDraws hbr _) _))))
          go_wp2
          go_round
          case rel => exact ⟨k + 1, by go_num, by omega, HStep.out hf (by omega), by first | exact hbr | exact belDraws hbr _⟩
          case measure => simp [intOf]; omega
    · have hz : z = true := by
        rw [HZ.out]
        exact HY.out (by rw [← HM.out]; omega) (fun j hj => HLow.out j (by rw [← HM.out] at hj; omega))
      go_wp2
      go_ret
      exact ⟨by rw [hz]; rfl, by first | exact hbr | exact belDraws hbr _⟩
end Go.Proofs.YtdbahiepihkagaaGreatDoor
