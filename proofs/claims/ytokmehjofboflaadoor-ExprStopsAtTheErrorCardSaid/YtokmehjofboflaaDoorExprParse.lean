/- What Parse of the specification of layer 6 answers. -/
import Derived.Test.YtokmehjofboflaaDoorExprOper
import Derived.Test.YtokmehjofboflaaDoorExprPieces
namespace Go.Proofs.YtokmehjofboflaaDoor
set_option maxRecDepth 100000
open Go.RowKit

theorem boxed6 (w : World) (C : Array Value) (t : TypeId) (i : Nat) : (w.alloc (.cells C t)).cell? ⟨w.heap.size, i, none⟩ = C[i]? := World.cell?_alloc_new w C t i
theorem ret_slice6 {a : Option Addr} {n m c : Nat} (h : n = m) : Ending.returned (.slice a n c) = .returned (.slice a m c) := by rw [h]
theorem Step6.far {U : Sur} {w w' : World} {s : St} (h : PAt U w s) (hb : Below w.heap.size w w') : Step6 U w w' s := ⟨h.far hb, hb.os, hb.tape, hb.output, hb.size, fun k hk _ => hb.block k hk⟩
/-- lists are short -/
theorem run_short {U : Sur} (hU : U.Ok) {n : Nat} {g : Go6} {s : St} {o : Out} (h : U.env.run n g s = some o) (hs : s.i ≤ U.ts.length) (hg : g.base ≤ s.i) : o.1.length ≤ 4096 ∧ o.1.length ≤ o.2.i := by
  have f := run_fine U.env n g s o h
  have h1 := f.len
  have h2 := f.later.top (by rw [show U.env.ts.length = U.ts.length from env_len _ _ _]; exact hs)
  rw [show U.env.ts.length = U.ts.length from env_len _ _ _] at h2
  have := hU.few
  omega
end Go.Proofs.YtokmehjofboflaaDoor
namespace Go.Proofs.YtokmehjofboflaaDoor
set_option maxRecDepth 100000
open Go.RowKit

theorem look_pos {T : List (Bytes × Int)} (hT : T.all (fun x => decide (0 < x.2)) = true) {l : Bytes} (h : lookW T l ≠ 0) : 0 < lookW T l := by
  unfold lookW at h ⊢
  cases hf : T.find? fun x => x.1 == l with
  | none => rw [hf] at h; exact absurd rfl h
  | some x =>
    rw [List.all_eq_true] at hT
    have := hT x (List.mem_of_find?_eq_some hf)
    simpa using this
theorem fact_pos {l : Bytes} (h : factF l ≠ 0) : 0 < factF l := look_pos (by decide) h
theorem agg_pos {l : Bytes} (h : aggW l ≠ 0) : 0 < aggW l := look_pos (by decide) h
theorem field_pos {l : Bytes} (h : fieldF l ≠ 0) : 0 < fieldF l := look_pos (by decide) h
/-- one term, behind a word that is passed -/
theorem out_lit {U : Sur} {w w1 : World} {s : St} (h : Step6 U w w1 s) (hi : s.i < U.ts.length) (a b : Int) :
    Out6 U w ([(a, b)], s.adv) (.returned (.slice (some ⟨w1.heap.size, 0, none⟩) 1 1)) ((w1.setCell ⟨U.W.heap.size, 3, none⟩ (.int .i64 ((s.i : Int) + 1))).alloc (.cells #[.int .i64 a, .int .i64 b] 36)) :=
  ⟨_, _, rfl, lit6s h.at_ _ _ [(a, b)] #[.int .i64 a, .int .i64 b] 1 rfl rfl (by simp [maxLen]), (h.adv hi).alloc _⟩
theorem out_lit0 {U : Sur} {w w1 : World} {s : St} (h : Step6 U w w1 s) (a b : Int) :
    Out6 U w ([(a, b)], s) (.returned (.slice (some ⟨w1.heap.size, 0, none⟩) 1 1)) (w1.alloc (.cells #[.int .i64 a, .int .i64 b] 36)) :=
  ⟨_, _, rfl, lit6 h.at_ a b, h.alloc _⟩
theorem Out6.drew {U : Sur} {w w' : World} {o : Out} {e : Ending} (h : Out6 U w o e w') : Out6 U w o e w'.drew := by
  obtain ⟨a, c, he, O, S⟩ := h
  exact ⟨a, c, he, O.drew 1, S.trans (Step6.draws S.at_ 1)⟩
theorem word_here {U : Sur} {s : St} (h : U.env.word s ≠ []) : s.i < U.ts.length := by
  have := (in_of (V := U.env) h).2
  rwa [show U.env.ts.length = U.ts.length from env_len _ _ _] at this
theorem kind_here {U : Sur} {s : St} (h : U.env.kind s = 2) : s.i < U.ts.length := by
  have := (kind_in (V := U.env) (s := s) (by omega)).2
  rwa [show U.env.ts.length = U.ts.length from env_len _ _ _] at this
end Go.Proofs.YtokmehjofboflaaDoor
namespace Go.Proofs.YtokmehjofboflaaDoor
set_option maxRecDepth 100000
open Go.RowKit

/-- the reader's place, as the world holds it -/
def at6 (U : Sur) (w : World) : Nat := (intOf ((w.cell? ⟨U.W.heap.size, 3, none⟩).getD (.int .i64 0))).toNat
theorem at6_eq {U : Sur} {w : World} {s : St} (h : PAt U w s) : at6 U w = s.i := by
  unfold at6
  rw [h.c3]
  simp [intOf]
theorem OwnT.adv6 {U : Sur} {w w1 : World} {s : St} {v : Value} {xs : List (Int × Int)} (h : Step6 U w w1 s) (hi : s.i < U.ts.length) (O : OwnT (U.W.heap.size + 1) w1 v xs) : OwnT (U.W.heap.size + 1) (w1.setCell ⟨U.W.heap.size, 3, none⟩ (.int .i64 ((s.i : Int) + 1))) v xs :=
  O.step (⟨(h.adv hi).at_, grown_set6 _ _ _ _⟩ : Step6 U w1 _ s.adv)
end Go.Proofs.YtokmehjofboflaaDoor
namespace Go.Proofs.YtokmehjofboflaaDoor
set_option maxRecDepth 100000

structure Heads (V : Env) (P : Int × Int → Prop) : Prop where
  op : ∀ z, 0 ≤ z → z ≤ 43 → P (z, 0)
  num : ∀ s, V.kind s = 2 → P (1, (V.num s : Int))
  name : ∀ op (x : Nat), (op = 5 ∨ op = 12) → x < V.ns.length → P (op, (x : Int))
def Go6.list : Go6 → List (Int × Int)
  | .more _ l => l
  | _ => []
theorem look_low {T : List (Bytes × Int)} (hT : T.all (fun x => decide (0 ≤ x.2 ∧ x.2 ≤ 43)) = true) (l : Bytes) : 0 ≤ lookW T l ∧ lookW T l ≤ 43 := by
  unfold lookW
  cases hf : T.find? fun x => x.1 == l with
  | none => exact ⟨by decide, by decide⟩
  | some x =>
    rw [List.all_eq_true] at hT
    have := hT x (List.mem_of_find?_eq_some hf)
    simpa using this
theorem bin_low (l : Bytes) : 0 ≤ (binF l).1 ∧ (binF l).1 ≤ 43 := by
  unfold binF lookT
  cases hf : signT.find? fun x => x.1 == l with
  | none => exact ⟨by decide, by decide⟩
  | some x =>
    have h : signT.all (fun x => decide (0 ≤ x.2.1 ∧ x.2.1 ≤ 43)) = true := by decide
    rw [List.all_eq_true] at h
    have := h x (List.mem_of_find?_eq_some hf)
    simpa using this
theorem idx_lt : ∀ {ns : List Bytes} {l : Bytes} {x : Nat}, idxN ns l = some x → x < ns.length
  | [], _, _, h => by cases h
  | y :: r, l, x, h => by
    unfold idxN at h
    split at h
    · injection h with h
      subst h
      simp
    · cases hr : idxN r l with
      | none => rw [hr] at h; cases h
      | some k =>
        rw [hr] at h
        have := idx_lt hr
        have e : k + 1 = x := by simpa using h
        simp
        omega
theorem Heads.var {V : Env} {P : Int × Int → Prop} (H : Heads V P) {op : Int} (ho : op = 5 ∨ op = 12) (s : St) : ∀ t ∈ (V.var op s).1, P t := by
  intro t ht
  unfold Env.var at ht
  split at ht
  · simp at ht
  · split at ht
    · simp at ht
    · rename_i x hx
      simp at ht
      rw [ht]
      exact H.name op x ho (idx_lt hx)
theorem run_terms {V : Env} {P : Int × Int → Prop} (H : Heads V P) : ∀ (n : Nat) (g : Go6) (s : St) (o : Out), V.run n g s = some o → (∀ t ∈ g.list, P t) → ∀ t ∈ o.1, P t
  | 0, g, s, o, h, _ => by unfold Env.run at h; cases h
  | n + 1, .choice, s, o, h, _ => by
    unfold Env.run at h
    cases h1 : V.run n (.bin 2) s with
    | none => rw [h1] at h; cases h
    | some c =>
      rw [h1, Option.bind_some] at h
      have p1 := run_terms H n _ _ _ h1 (by simp [Go6.list])
      split at h
      · cases h2 : V.run n .choice c.2.adv with
        | none => rw [h2] at h; cases h
        | some a =>
          rw [h2, Option.bind_some] at h
          have p2 := run_terms H n _ _ _ h2 (by simp [Go6.list])
          cases h3 : V.run n .choice (V.want [58] a.2) with
          | none => rw [h3] at h; cases h
          | some b =>
            rw [h3, Option.bind_some] at h
            have p3 := run_terms H n _ _ _ h3 (by simp [Go6.list])
            injection h with h
            subst h
            intro t ht
            rcases List.mem_cons.1 ht with rfl | ht
            · exact H.op 43 (by decide) (by decide)
            · rcases List.mem_append.1 ht with ht | ht
              · exact p1 t ht
              · rcases List.mem_append.1 ht with ht | ht
                · exact p2 t ht
                · exact p3 t ht
      · injection h with h
        subst h
        exact p1
  | n + 1, .bin lv, s, o, h, _ => by
    unfold Env.run at h
    split at h
    · exact run_terms H n _ _ _ h (by simp [Go6.list])
    · cases h1 : V.run n (.bin (lv + 1)) s with
      | none => rw [h1] at h; cases h
      | some l =>
        rw [h1, Option.bind_some] at h
        exact run_terms H n _ _ _ h (run_terms H n _ _ _ h1 (by simp [Go6.list]))
  | n + 1, .more lv l, s, o, h, hl => by
    unfold Env.run at h
    split at h
    · injection h with h
      subst h
      exact hl
    · cases h1 : V.run n (.bin (lv + 1)) s.adv with
      | none => rw [h1] at h; cases h
      | some r =>
        rw [h1, Option.bind_some] at h
        have p1 := run_terms H n _ _ _ h1 (by simp [Go6.list])
        have pn : ∀ t ∈ ((binF (V.word s)).1, (0 : Int)) :: (l ++ r.1), P t := by
          intro t ht
          rcases List.mem_cons.1 ht with rfl | ht
          · exact H.op _ (bin_low _).1 (bin_low _).2
          · rcases List.mem_append.1 ht with ht | ht
            · exact hl t ht
            · exact p1 t ht
        split at h
        · injection h with h
          subst h
          exact pn
        · exact run_terms H n _ _ _ h pn
  | n + 1, .unary, s, o, h, _ => by
    unfold Env.run at h
    split at h
    · cases h1 : V.run n .unary s.adv with
      | none => rw [h1] at h; cases h
      | some x =>
        rw [h1, Option.bind_some] at h
        have p1 := run_terms H n _ _ _ h1 (by simp [Go6.list])
        injection h with h
        subst h
        intro t ht
        rcases List.mem_cons.1 ht with rfl | ht
        · exact H.op 18 (by decide) (by decide)
        · exact p1 t ht
    · split at h
      · cases h1 : V.run n .unary s.adv with
        | none => rw [h1] at h; cases h
        | some x =>
          rw [h1, Option.bind_some] at h
          have p1 := run_terms H n _ _ _ h1 (by simp [Go6.list])
          injection h with h
          subst h
          intro t ht
          rcases List.mem_cons.1 ht with rfl | ht
          · exact H.op 19 (by decide) (by decide)
          · exact p1 t ht
      · exact run_terms H n _ _ _ h (by simp [Go6.list])
  | n + 1, .prim, s, o, h, _ => by
    unfold Env.run at h
    split at h
    · rename_i q
      injection h with h
      subst h
      intro t ht
      simp at ht
      rw [ht]
      exact H.num s q
    · split at h
      · injection h with h
        subst h
        intro t ht
        simp at ht
        rw [ht]
        have := look_low (T := factT) (by decide) (V.word s)
        exact H.op _ this.1 this.2
      · split at h
        · cases h1 : V.run n .choice (V.want [40] s.adv) with
          | none => rw [h1] at h; cases h
          | some y =>
            rw [h1, Option.bind_some] at h
            have p1 := run_terms H n _ _ _ h1 (by simp [Go6.list])
            injection h with h
            subst h
            intro t ht
            rcases List.mem_cons.1 ht with rfl | ht
            · have := look_low (T := aggT) (by decide) (V.word s)
              exact H.op _ this.1 this.2
            · exact p1 t ht
        · split at h
          · cases h1 : V.run n .choice s.adv with
            | none => rw [h1] at h; cases h
            | some y =>
              rw [h1, Option.bind_some] at h
              have p1 := run_terms H n _ _ _ h1 (by simp [Go6.list])
              injection h with h
              subst h
              exact p1
          · split at h
            · injection h with h
              subst h
              intro t ht
              unfold Env.near at ht
              split at ht
              · split at ht
                · simp at ht
                  rw [ht]
                  have := look_low (T := fieldT) (by decide) (V.word s.adv.adv)
                  exact H.op _ this.1 this.2
                · exact H.var (.inr rfl) _ t ht
              · simp at ht
                rw [ht]
                exact H.op 11 (by decide) (by decide)
            · injection h with h
              subst h
              exact H.var (.inl rfl) _
/-- numbers of tokens are small -/
theorem tok_small {l : Bytes} {t : Tk} (h : tokF l = .inr t) : t.num ≤ 1073741824 := by
  unfold tokF at h
  split at h
  · cases h
  · split at h
    · split at h
      · cases h
      · injection h with h
        subst h
        exact Nat.zero_le _
    · split at h
      · split at h
        · cases h
        · rename_i hb
          injection h with h
          subst h
          dsimp only
          simp at hb
          omega
      · split at h
        · cases h
        · injection h with h
          subst h
          exact Nat.zero_le _
theorem scan_num {T : Bytes} {ts : List Tok} (h : scanB T = .inr ts) {k : Nat} (hk : k < ts.length) : (tkA ts k).num ≤ 1073741824 := tok_small (stands h hk).tok
theorem scan_count {T : Bytes} {ts : List Tok} (h : scanB T = .inr ts) : ts.length ≤ T.length := by
  have := (scan_run h).1.sizes.2.1
  omega
/-- the terms of a text that is read -/
theorem out_terms {T : Bytes} {ts : List Tok} {ns : List Bytes} (h : scanB T = .inr ts) (hn : ns.length ≤ 6) : ∀ t ∈ (envF T ts ns).out.1, (0 ≤ t.1 ∧ t.1 ≤ 43) ∧ 0 ≤ t.2 ∧ t.2 ≤ 1073741824 := by
  obtain ⟨n, hr⟩ := read_some (envF T ts ns) .choice ⟨0, 0, 0⟩
  refine run_terms (V := envF T ts ns) ⟨fun z h1 h2 => ⟨⟨h1, h2⟩, by omega, by dsimp only; omega⟩, fun s hk => ?_, fun op x ho hx => ?_⟩ n _ _ _ hr (by simp [Go6.list])
  · refine ⟨⟨by show (0 : Int) ≤ 1; decide, by show (1 : Int) ≤ 43; decide⟩, ?_⟩
    have hi := (kind_in (V := envF T ts ns) (s := s) (by omega)).2
    rw [env_len] at hi
    unfold Env.num
    rw [env_at hi]
    have := scan_num h hi
    show 0 ≤ (((tkA ts s.i).num : Nat) : Int) ∧ _
    constructor
    · omega
    · show (((tkA ts s.i).num : Nat) : Int) ≤ 1073741824
      omega
  · have hx2 : x < ns.length := hx
    dsimp only
    omega
theorem out_len (T : Bytes) (ts : List Tok) (ns : List Bytes) : (envF T ts ns).out.1.length ≤ ts.length := by
  obtain ⟨n, hr⟩ := read_some (envF T ts ns) .choice ⟨0, 0, 0⟩
  have f := run_fine _ _ _ _ _ hr
  have h1 := f.len
  have h2 := f.later.top (Nat.zero_le _)
  rw [env_len] at h2
  have : (envF T ts ns).out = (envF T ts ns).read .choice ⟨0, 0, 0⟩ := rfl
  rw [this]
  simp [Go6.base] at h1
  omega
end Go.Proofs.YtokmehjofboflaaDoor
namespace Go.Proofs.YtokmehjofboflaaDoor
set_option maxRecDepth 100000
open Go.RowKit

theorem sur_ok {w w1 : World} {na a : Option Addr} {nc c : Nat} {T : Bytes} {ns : List Bytes} {ts : List Tok} (hN : NamesAt w na ns) (hb : Below w.heap.size w w1) (hT : TokAt w1 a ts) (hg : goodF ns = true) (hs : scanB T = .inr ts) : (Sur.mk w1 na nc a c T ns ts).Ok where
  names := hN.below hb rfl
  toks := hT
  ends := fun _ hk => ⟨Nat.le_of_lt (stands hs hk).lt, (stands hs hk).le⟩
  good := hg
  few := (scan_run hs).2.1
  short := (scan_run hs).2.2
  nums := fun _ hk => scan_num hs hk
theorem ret_three {u : Value} {a b c d : Int} (h : a = c) (h2 : b = d) : Ending.returned (.tuple #[u, .int .i64 a, .int .i64 b]) = .returned (.tuple #[u, .int .i64 c, .int .i64 d]) := by rw [h, h2]
/-- what Parse answers -/
def ParseOut (x : List (Int × Int) × Nat × Nat) (w : World) (e : Ending) (w' : World) : Prop :=
  (∃ a c, e = .returned (.tuple #[.slice a x.1.length c, .int .i64 (x.2.1 : Int), .int .i64 (x.2.2 : Int)]) ∧ OwnT w.heap.size w' (.slice a x.1.length c) x.1) ∧ Below w.heap.size w w'
theorem parse_bad {w w' : World} (p f : Nat) (hb : Below w.heap.size w w') : ParseOut ([], p, f) w (.returned (.tuple #[.slice none 0 0, .int .i64 (p : Int), .int .i64 (f : Int)])) w' :=
  ⟨⟨none, 0, rfl, OwnT.none6 _ _⟩, hb⟩
theorem i64_terms {xs : List (Int × Int)} (h : ∀ t ∈ xs, (0 ≤ t.1 ∧ t.1 ≤ 43) ∧ 0 ≤ t.2 ∧ t.2 ≤ 1073741824) : ∀ t ∈ xs, I64 t.1 ∧ I64 t.2 := fun t ht => by
  have := h t ht
  unfold I64
  omega
theorem step_below {U : Sur} {w w1 w2 : World} {s : St} (hb : Below w.heap.size w w1) (h1 : w.heap.size ≤ U.W.heap.size) (S : Step6 U w1 w2 s) : Below w.heap.size w w2 := hb.grown S.grow hb.size (fun k e => by
  injection e with e
  omega)
/-- what is read is not too long to be looked at -/
def Fits6 (T : Bytes) (ns : List Bytes) : Prop := ∀ ts, scanB T = .inr ts → (envF T ts ns).out.1.length ≤ 1000
theorem fits_short {T : Bytes} (h : T.length ≤ 1000) (ns : List Bytes) : Fits6 T ns := fun ts hs => by
  have h1 := out_len T ts ns
  have h2 := scan_count hs
  omega
end Go.Proofs.YtokmehjofboflaaDoor
