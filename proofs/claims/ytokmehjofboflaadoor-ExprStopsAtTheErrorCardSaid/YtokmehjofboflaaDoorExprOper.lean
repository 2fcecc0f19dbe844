/- Append of a list of one's own, empty or not; what operation of the specification of layer 6 makes. -/
import Derived.Test.YtokmehjofboflaaDoorExprNames
import Derived.Test.YtokmehjofboflaaDoorExprPieces
import Derived.Test.YtokmehjofboflaaDoorTermApp
import Derived.Laws.OwnMore
namespace Go.Proofs.YtokmehjofboflaaDoor
set_option maxRecDepth 100000
open Go.RowKit

/-- the world ahead of the reader, the rows of names and of tokens, the text -/
structure Sur where
  W : World
  na : Option Addr
  nc : Nat
  ta : Option Addr
  tc : Nat
  tx : Bytes
  ns : List Bytes
  ts : List Tok
def Sur.env (U : Sur) : Env := envF U.tx U.ts U.ns
structure Sur.Ok (U : Sur) : Prop where
  names : NamesAt U.W U.na U.ns
  toks : TokAt U.W U.ta U.ts
  ends : ∀ k, k < U.ts.length → (tkA U.ts k).at_ ≤ (tkA U.ts k).end_ ∧ (tkA U.ts k).end_ ≤ U.tx.length
  good : goodF U.ns = true
  few : U.ts.length ≤ 4096
  short : U.tx.length ≤ 16384
  nums : ∀ k, k < U.ts.length → (tkA U.ts k).num ≤ 1073741824
/-- the reader's struct, behind the old world -/
structure PAt (U : Sur) (w : World) (s : St) : Prop where
  bel : Below U.W.heap.size U.W w
  lt : U.W.heap.size < w.heap.size
  c0 : w.cell? ⟨U.W.heap.size, 0, none⟩ = some (.string (mkS U.tx))
  c1 : w.cell? ⟨U.W.heap.size, 1, none⟩ = some (.slice U.na U.ns.length U.nc)
  c2 : w.cell? ⟨U.W.heap.size, 2, none⟩ = some (.slice U.ta U.ts.length U.tc)
  c3 : w.cell? ⟨U.W.heap.size, 3, none⟩ = some (.int .i64 (s.i : Int))
  c4 : w.cell? ⟨U.W.heap.size, 4, none⟩ = some (.int .i64 (s.err : Int))
  c5 : w.cell? ⟨U.W.heap.size, 5, none⟩ = some (.int .i64 (s.place : Int))
  f3 : w.frozen? ⟨U.W.heap.size, 3, none⟩ = false
  f4 : w.frozen? ⟨U.W.heap.size, 4, none⟩ = false
  f5 : w.frozen? ⟨U.W.heap.size, 5, none⟩ = false
  low : s.i ≤ U.ts.length
theorem PAt.drew {U : Sur} {w : World} {s : St} (h : PAt U w s) (n : Nat) : PAt U (w.drewN n) s :=
  ⟨belDraws h.bel n, h.lt, h.c0, h.c1, h.c2, h.c3, h.c4, h.c5, h.f3, h.f4, h.f5, h.low⟩
theorem mkS_part (l : Bytes) (a e : Nat) : (mkS l).extract a e = mkS ((l.drop a).take (e - a)) := by
  have h : ((mkS l).extract a e).data.toList = (l.drop a).take (e - a) := by
    simp [mkS, ByteArray.data_extract]
  rw [← mkS_data ((mkS l).extract a e), h]
theorem PAt.far {U : Sur} {w w' : World} {s : St} (h : PAt U w s) (hb : Below w.heap.size w w') : PAt U w' s := by
  have hl := h.lt
  refine ⟨h.bel.trans (hb.mono (Nat.le_of_lt hl)), Nat.lt_of_lt_of_le hl hb.size, (hb.cell (p := ⟨U.W.heap.size, 0, none⟩) hl).trans h.c0, (hb.cell (p := ⟨U.W.heap.size, 1, none⟩) hl).trans h.c1, (hb.cell (p := ⟨U.W.heap.size, 2, none⟩) hl).trans h.c2, (hb.cell (p := ⟨U.W.heap.size, 3, none⟩) hl).trans h.c3, (hb.cell (p := ⟨U.W.heap.size, 4, none⟩) hl).trans h.c4, (hb.cell (p := ⟨U.W.heap.size, 5, none⟩) hl).trans h.c5, (hb.frozen (p := ⟨U.W.heap.size, 3, none⟩) hl).trans h.f3, (hb.frozen (p := ⟨U.W.heap.size, 4, none⟩) hl).trans h.f4, (hb.frozen (p := ⟨U.W.heap.size, 5, none⟩) hl).trans h.f5, h.low⟩
theorem setCell_size (w : World) (a : Addr) (v : Value) : (w.setCell a v).heap.size = w.heap.size := by simp [World.setCell]
theorem PAt.set3 {U : Sur} {w : World} {s : St} (h : PAt U w s) (i : Nat) (hi : i ≤ U.ts.length) : PAt U (w.setCell ⟨U.W.heap.size, 3, none⟩ (.int .i64 (i : Int))) { s with i := i } := by
  refine ⟨h.bel.setCell (Nat.le_refl _) _, by rw [setCell_size]; exact h.lt, (set_other (by simp)).trans h.c0, (set_other (by simp)).trans h.c1, (set_other (by simp)).trans h.c2, set_same h.c3, (set_other (by simp)).trans h.c4, (set_other (by simp)).trans h.c5, ?_, ?_, ?_, hi⟩
  · rw [World.frozen?_setCell]; exact h.f3
  · rw [World.frozen?_setCell]; exact h.f4
  · rw [World.frozen?_setCell]; exact h.f5
theorem PAt.set4 {U : Sur} {w : World} {s : St} (h : PAt U w s) (e : Nat) : PAt U (w.setCell ⟨U.W.heap.size, 4, none⟩ (.int .i64 (e : Int))) { s with err := e } := by
  refine ⟨h.bel.setCell (Nat.le_refl _) _, by rw [setCell_size]; exact h.lt, (set_other (by simp)).trans h.c0, (set_other (by simp)).trans h.c1, (set_other (by simp)).trans h.c2, (set_other (by simp)).trans h.c3, set_same h.c4, (set_other (by simp)).trans h.c5, ?_, ?_, ?_, h.low⟩
  · rw [World.frozen?_setCell]; exact h.f3
  · rw [World.frozen?_setCell]; exact h.f4
  · rw [World.frozen?_setCell]; exact h.f5
theorem PAt.set5 {U : Sur} {w : World} {s : St} (h : PAt U w s) (e : Nat) : PAt U (w.setCell ⟨U.W.heap.size, 5, none⟩ (.int .i64 (e : Int))) { s with place := e } := by
  refine ⟨h.bel.setCell (Nat.le_refl _) _, by rw [setCell_size]; exact h.lt, (set_other (by simp)).trans h.c0, (set_other (by simp)).trans h.c1, (set_other (by simp)).trans h.c2, (set_other (by simp)).trans h.c3, (set_other (by simp)).trans h.c4, set_same h.c5, ?_, ?_, ?_, h.low⟩
  · rw [World.frozen?_setCell]; exact h.f3
  · rw [World.frozen?_setCell]; exact h.f4
  · rw [World.frozen?_setCell]; exact h.f5
/-- the token at the reader's place -/
theorem Sur.here {U : Sur} {i : Nat} (h : i < U.ts.length) : U.env.ts[i]? = some (ofTok U.tx (tkA U.ts i)) := env_at h
theorem PAt.tok {U : Sur} (hU : U.Ok) {w : World} {s : St} (h : PAt U w s) (hi : s.i < U.ts.length) : ∃ b, U.ta = some ⟨b, 0, none⟩ ∧ w.cell? ⟨b, s.i * 4, none⟩ = some (.int .i64 ((tkA U.ts s.i).kind : Int)) ∧ w.cell? ⟨b, s.i * 4 + 1, none⟩ = some (.int .i64 ((tkA U.ts s.i).at_ : Int)) ∧
    w.cell? ⟨b, s.i * 4 + 2, none⟩ = some (.int .i64 ((tkA U.ts s.i).end_ : Int)) ∧ w.cell? ⟨b, s.i * 4 + 3, none⟩ = some (.int .i64 ((tkA U.ts s.i).num : Int)) := by
  obtain ⟨b, hb, _, hc⟩ := (hU.toks.below h.bel rfl).row (by omega)
  exact ⟨b, hb, hc s.i hi⟩
end Go.Proofs.YtokmehjofboflaaDoor
namespace Go.Proofs.YtokmehjofboflaaDoor
set_option maxRecDepth 100000
open Go.RowKit

/-- a step of the reader: its struct's new state, and no other old block turned -/
structure Step6 (U : Sur) (w w' : World) (s' : St) : Prop where
  at_ : PAt U w' s'
  grow : w.grownBy w' (some U.W.heap.size)
theorem grown_set6 (w : World) (b i : Nat) (v : Value) : w.grownBy (w.setCell ⟨b, i, none⟩ v) (some b) :=
  ⟨rfl, rfl, rfl, by simp [World.setCell], fun k _ hne => Below.heap_setCell w _ _ k (by intro e; exact hne (by rw [e]))⟩
theorem grown_draws (w : World) (n : Nat) (r : Option Nat) : w.grownBy (w.drewN n) r := ⟨rfl, rfl, rfl, Nat.le_refl _, fun _ _ _ => rfl⟩
theorem fail_bad {V : Env} {s : St} (h : s.err ≠ 0) (e : Nat) : V.fail s e = s := by unfold Env.fail; rw [if_pos h]
theorem fail_good {V : Env} {s : St} (h : s.err = 0) (e : Nat) : V.fail s e = ⟨s.i, e, V.here s⟩ := by unfold Env.fail; rw [if_neg (by omega)]
theorem take_in {U : Sur} {s : St} {x : Bytes} (hx : x ≠ []) (h : U.env.word s = x) : s.err = 0 ∧ s.i < U.ts.length := by
  have := in_of (V := U.env) (s := s) (by rw [h]; exact hx)
  exact ⟨this.1, by have := this.2; rwa [show U.env.ts.length = U.ts.length from env_len _ _ _] at this⟩
end Go.Proofs.YtokmehjofboflaaDoor
namespace Go.Proofs.YtokmehjofboflaaDoor
set_option maxRecDepth 100000
open Go.RowKit

/-- an outcome: a list of the call's own, and a step -/
def Out6 (U : Sur) (w : World) (o : Out) (e : Ending) (w' : World) : Prop :=
  ∃ a c, e = .returned (.slice a o.1.length c) ∧ OwnT (U.W.heap.size + 1) w' (.slice a o.1.length c) o.1 ∧ Step6 U w w' o.2
theorem grown_alloc6 (w : World) (o : Obj) (r : Option Nat) : w.grownBy (w.alloc o) r := by
  have h := (Below.refl w.heap.size w).alloc (Nat.le_refl _) o
  exact ⟨h.os, h.tape, h.output, h.size, fun k hk _ => h.block k hk⟩
theorem below_alloc6 (w : World) (o : Obj) : Below w.heap.size w (w.alloc o) := (Below.refl _ _).alloc (Nat.le_refl _) o
theorem OwnT.none6 (B : Nat) (w : World) : OwnT B w (.slice none 0 0) [] := World.ownsRow_nil _ _ _ _
/-- a list of one's own stands over a step -/
theorem OwnT.step {U : Sur} {w w' : World} {s' : St} {v : Value} {xs : List (Int × Int)} (h : OwnT (U.W.heap.size + 1) w v xs) (hs : Step6 U w w' s') : OwnT (U.W.heap.size + 1) w' v xs :=
  World.ownsRow.kept h hs.grow (by
    rcases h.2 with ⟨rfl, _⟩ | ⟨g, cap, cur, rfl, hB, _⟩
    · simp [Value.ownBlock]
    · simp [Value.ownBlock]
      omega)
theorem Step6.trans {U : Sur} {w w1 w2 : World} {s1 s2 : St} (h : Step6 U w w1 s1) (k : Step6 U w1 w2 s2) : Step6 U w w2 s2 := ⟨k.at_, h.grow.trans k.grow⟩
theorem Step6.draws {U : Sur} {w : World} {s : St} (h : PAt U w s) (n : Nat) : Step6 U w (w.drewN n) s := ⟨h.drew n, grown_draws _ _ _⟩
theorem Step6.quiet {U : Sur} {w w' : World} {s : St} (h : PAt U w s) (hm : ∃ m, w' = w.drewN m) : Step6 U w w' s := by
  obtain ⟨m, rfl⟩ := hm
  exact Step6.draws h m
theorem Step6.alloc {U : Sur} {w w1 : World} {s1 : St} (h : Step6 U w w1 s1) (o : Obj) : Step6 U w (w1.alloc o) s1 := ⟨h.at_.far (below_alloc6 _ _), h.grow.trans (grown_alloc6 _ _ _)⟩
theorem Step6.adv {U : Sur} {w w1 : World} {s : St} (h : Step6 U w w1 s) (hi : s.i < U.ts.length) : Step6 U w (w1.setCell ⟨U.W.heap.size, 3, none⟩ (.int .i64 ((s.i : Int) + 1))) s.adv := by
  have e : (s.i : Int) + 1 = ((s.i + 1 : Nat) : Int) := by omega
  rw [e]
  exact ⟨h.at_.set3 _ hi, h.grow.trans (grown_set6 _ _ _ _)⟩
/-- a new list of one term -/
theorem lit6 {U : Sur} {w : World} {s : St} (h : PAt U w s) (a b : Int) : OwnT (U.W.heap.size + 1) (w.alloc (.cells #[.int .i64 a, .int .i64 b] 36)) (.slice (some ⟨w.heap.size, 0, none⟩) 1 1) [(a, b)] :=
  OwnT.lit w _ [(a, b)] #[.int .i64 a, .int .i64 b] 1 rfl rfl h.lt (by simp [maxLen])
/-- the same behind a store into the reader's struct -/
theorem lit6s {U : Sur} {w : World} {s : St} (h : PAt U w s) (p : Addr) (v : Value) (xs : List (Int × Int)) (cs : Array Value) (n : Nat) (hn : n = xs.length) (hc : cs.toList = linkVs xs) (hm : xs.length ≤ maxLen) : OwnT (U.W.heap.size + 1) ((w.setCell p v).alloc (.cells cs 36)) (.slice (some ⟨w.heap.size, 0, none⟩) n n) xs := by
  have := OwnT.lit (w.setCell p v) (U.W.heap.size + 1) xs cs n hn hc (by rw [setCell_size]; exact h.lt) hm
  rwa [setCell_size] at this
theorem idx_cases (ns : List Bytes) (l : Bytes) : (idxN ns l = none ∧ idxI ns l = -1) ∨ ∃ x : Nat, idxN ns l = some x ∧ idxI ns l = (x : Int) := by
  unfold idxI
  cases idxN ns l with
  | none => exact .inl ⟨rfl, rfl⟩
  | some x => exact .inr ⟨x, rfl, rfl⟩
theorem good_few {ns : List Bytes} (h : goodF ns = true) : ns.length ≤ 6 := by
  unfold goodF at h
  rw [Bool.and_eq_true, decide_eq_true_eq] at h
  exact h.1
end Go.Proofs.YtokmehjofboflaaDoor
namespace Go.Proofs.YtokmehjofboflaaDoor
set_option maxRecDepth 100000
open Go.RowKit

section
variable {ops : Array Oper} {o : Oper} {a : Act} {w W : World} {K : Act → World → Prop} {Q : Exit → Act → World → Prop} {E : Prop} {rest : List Oper}
theorem run_appO (ty : TypeId) (B B2 : Nat) (v u : Value) (ys xs : List (Int × Int)) (hown : OwnT B w v ys) (hx : OwnT B2 w u xs) (hl : ys.length + xs.length ≤ 1000000) (hB : B ≤ w.heap.size) :
    ∃ a' c' w', (Builtin.append_ #[29, 29] ty #[v, u]).run Tryd.prog w = .ok (.slice a' (ys.length + xs.length) c') w' ∧ OwnT B w' (.slice a' (ys.length + xs.length) c') (ys ++ xs) ∧ w.grownBy w' v.ownBlock := by
  obtain ⟨i, hi, hz, hz1, hz2⟩ := info_parts infoTerm
  rcases hx.2 with ⟨rfl, h0⟩ | ⟨g, cap, cur, rfl, _, hg, h1, h2, _⟩
  · have hx0 : xs = [] := List.eq_nil_of_length_eq_zero h0
    subst hx0
    have hr := run_append_owned_none (P := Tryd.prog) (w := w) B 29 ty 36 i 2 Tryd.underlying29 hi v ys.length (linkVs ys) hown
    obtain ⟨a', c', e, _⟩ := hown.shape
    refine ⟨a', c', w, ?_, ?_, World.grownBy.refl _ _⟩
    · rw [hr, e]
      rfl
    · rw [List.append_nil]
      rw [e] at hown
      exact hown
  · obtain ⟨v', w', hr, h4, h3, _⟩ := run_append_own (P := Tryd.prog) w B 29 ty 36 i (.agg #[.int .i64 0, .int .i64 0]) 2 16 Tryd.underlying29 hi hz hz1 hz2 rfl (by decide) v ys.length (linkVs ys) hown ⟨g, 0, none⟩ xs.length cap (linkVs xs) (linkVs_len xs) (fun j u hj => by
      have hlt : j < xs.length * 2 := by
        rw [← linkVs_len]
        exact (List.getElem?_eq_some_iff.1 hj).1
      have := World.ownsRow.cellAt hx j hlt
      rw [add_none, Nat.zero_add, this, hj]) linkVs_one (by unfold maxLen; omega) (by omega) hB
    rw [← linkVs_append] at h4
    have h2' : OwnT B w' v' (ys ++ xs) := by
      unfold OwnT
      rw [List.length_append]
      exact h4
    obtain ⟨a', c', e, _⟩ := h2'.shape
    rw [List.length_append] at e
    subst e
    exact ⟨a', c', w', hr, h2', h3⟩
theorem wpList_appO (hgd : o.guard = none) (s x : Operand) (ho : o.op = .call { callee := .builtin .append, args := #[s, x], argTypes := #[29, 29] })
    (B B2 : Nat) (v u : Value) (ys xs : List (Int × Int)) (hown : OwnT B w v ys) (hx : OwnT B2 w u xs) (n m : Nat) (hn : n = ys.length) (hm : m = xs.length) (hs' : a.eval s = v) (hxe : a.eval x = u) (hl : n + m ≤ 1000000) (hB : B ≤ w.heap.size)
    (hK : ∀ a' c' w', OwnT B w' (.slice a' (n + m) c') (ys ++ xs) → w.grownBy w' v.ownBlock → wpList Tryd.prog ops Q rest (a.put o.dst (.slice a' (n + m) c')) w') :
    wpList Tryd.prog ops Q (o :: rest) a w := by
  subst hn hm
  refine wpList_plain hgd fun K hK' => ?_
  obtain ⟨a', c', w', hr, h2, h3⟩ := run_appO o.type B B2 v u ys xs hown hx hl hB
  unfold Oper.wp execOp
  simp only [ho, resolve, invoke, builtin, Sem.run_bind, Sem.run_pure, Result.andThen_ok, List.map_toArray, List.map_cons, List.map_nil, hs', hxe, hr]
  exact hK' _ _ (hK a' c' w' h2 h3)
end
theorem own_low {B : Nat} {w : World} {v : Value} {xs : List (Int × Int)} (h : OwnT B w v xs) {k : Nat} (e : v.ownBlock = some k) : B ≤ k := by
  rcases h.2 with ⟨rfl, _⟩ | ⟨g, cap, cur, rfl, hB, _⟩
  · simp [Value.ownBlock] at e
  · simp [Value.ownBlock] at e
    omega
theorem OwnT.base {B B2 : Nat} {w : World} {v : Value} {xs : List (Int × Int)} (h : OwnT B w v xs) (hB : B2 ≤ B) : OwnT B2 w v xs := by
  refine ⟨h.1, ?_⟩
  rcases h.2 with h | ⟨g, cap, cur, e, h1, h2⟩
  · exact .inl h
  · exact .inr ⟨g, cap, cur, e, by omega, h2⟩
theorem flat_len_le : ∀ (xss : List (List (Int × Int))) (i : Nat), (xss.take i).flatten.length ≤ xss.flatten.length
  | [], i => by simp
  | x :: r, 0 => by simp
  | x :: r, i + 1 => by
    have := flat_len_le r i
    simp at this ⊢
    omega
theorem flat_step {xss : List (List (Int × Int))} {i : Nat} (hi : i < xss.length) : (xss.take (i + 1)).flatten = (xss.take i).flatten ++ xss.getD i [] := by
  rw [List.take_succ_eq_append_getElem hi, List.flatten_append, List.getD_eq_getElem?_getD, List.getElem?_eq_getElem hi]
  simp
end Go.Proofs.YtokmehjofboflaaDoor
