/- What Fail, Take, Want and variable of the specification of layer 6 do. -/
import Derived.Test.YtdbahiepihkagaaDoorTermR8
import Derived.Test.YtdbahiepihkagaaDoorExprNames
import Derived.Test.YtdbahiepihkagaaDoorExprTree
namespace Go.Proofs.YtdbahiepihkagaaDoor
set_option maxRecDepth 100000
open Go.RowKit

theorem linkVs_append (ys xs : List (Int × Int)) : linkVs (ys ++ xs) = linkVs ys ++ linkVs xs := by simp [linkVs]
section
variable {ops : Array Oper} {o : Oper} {a : Act} {w W : World} {K : Act → World → Prop} {Q : Exit → Act → World → Prop} {E : Prop} {rest : List Oper}
/-- a list that is not empty is appended to a list of one's own -/
theorem run_appT (ty : TypeId) (B : Nat) (v : Value) (ys : List (Int × Int)) (hown : OwnT B w v ys) (la : Option Addr) (lc : Nat) (xs : List (Int × Int)) (h : LinksAt w la xs) (h0 : 0 < xs.length) (hl : ys.length + xs.length ≤ 1000000) (hB : B ≤ w.heap.size) :
    ∃ a' c' w', (Builtin.append_ #[29, 29] ty #[v, .slice la xs.length lc]).run Tryd.prog w = .ok (.slice a' (ys.length + xs.length) c') w' ∧ OwnT B w' (.slice a' (ys.length + xs.length) c') (ys ++ xs) ∧ w.grownBy w' v.ownBlock := by
  obtain ⟨i, hi, hz, hz1, hz2⟩ := info_parts infoTerm
  obtain ⟨b, off, rfl, _⟩ := h.row h0
  obtain ⟨v', w', hr, h2, h3, _⟩ := run_append_own (P := Tryd.prog) w B 29 ty 36 i (.agg #[.int .i64 0, .int .i64 0]) 2 16 Tryd.underlying29 hi hz hz1 hz2 rfl (by decide) v ys.length (linkVs ys) hown ⟨b, off, none⟩ xs.length lc (linkVs xs) (linkVs_len xs) (links_cells h) linkVs_one (by unfold maxLen; omega) (by omega) hB
  rw [← linkVs_append] at h2
  have h2' : OwnT B w' v' (ys ++ xs) := by
    unfold OwnT
    rw [List.length_append]
    exact h2
  obtain ⟨a', c', e, _⟩ := h2'.shape
  rw [List.length_append] at e
  subst e
  exact ⟨a', c', w', hr, h2', h3⟩
theorem wpList_appT (hgd : o.guard = none) (s x : Operand) (ho : o.op = .call { callee := .builtin .append, args := #[s, x], argTypes := #[29, 29] })
    (B : Nat) (v : Value) (ys : List (Int × Int)) (n : Nat) (hn : n = ys.length) (hown : OwnT B w v ys) (la : Option Addr) (lc : Nat) (xs : List (Int × Int)) (m : Nat) (hm : m = xs.length) (hs' : a.eval s = v) (hx : a.eval x = .slice la m lc) (h : LinksAt w la xs) (h0 : 0 < xs.length) (hl : ys.length + xs.length ≤ 1000000) (hB : B ≤ w.heap.size)
    (hK : ∀ a' c' w', OwnT B w' (.slice a' (n + m) c') (ys ++ xs) → w.grownBy w' v.ownBlock → wpList Tryd.prog ops Q rest (a.put o.dst (.slice a' (n + m) c')) w') :
    wpList Tryd.prog ops Q (o :: rest) a w := by
  subst hn hm
  refine wpList_plain hgd fun K hK' => ?_
  obtain ⟨a', c', w', hr, h2, h3⟩ := run_appT o.type B v ys hown la lc xs h h0 hl hB
  unfold Oper.wp execOp
  simp only [ho, resolve, invoke, builtin, Sem.run_bind, Sem.run_pure, Result.andThen_ok, List.map_toArray, List.map_cons, List.map_nil, hs', hx, hr]
  exact hK' _ _ (hK a' c' w' h2 h3)
theorem step_appT (hgd : o.guard = none) (s x : Operand) (ho : o.op = .call { callee := .builtin .append, args := #[s, x], argTypes := #[29, 29] })
    (B : Nat) (v : Value) (ys : List (Int × Int)) (n : Nat) (hn : n = ys.length) (hown : OwnT B w v ys) (la : Option Addr) (lc : Nat) (xs : List (Int × Int)) (m : Nat) (hm : m = xs.length) (hs' : a.eval s = v) (hx : a.eval x = .slice la m lc) (h : LinksAt w la xs) (h0 : 0 < xs.length) (hl : ys.length + xs.length ≤ 1000000) (hB : B ≤ w.heap.size)
    (hK : ∀ a' c' w', OwnT B w' (.slice a' (n + m) c') (ys ++ xs) → w.grownBy w' v.ownBlock → K (a.put o.dst (.slice a' (n + m) c')) w') :
    if Region.wanted o (yielded ops a.tmps) = true then Oper.wp Tryd.prog o a w K Q else E := by
  subst hn hm
  have hw : Region.wanted o (yielded ops a.tmps) = true := by simp [Region.wanted, hgd]
  rw [if_pos hw]
  obtain ⟨a', c', w', hr, h2, h3⟩ := run_appT o.type B v ys hown la lc xs h h0 hl hB
  unfold Oper.wp execOp
  simp only [ho, resolve, invoke, builtin, Sem.run_bind, Sem.run_pure, Result.andThen_ok, List.map_toArray, List.map_cons, List.map_nil, hs', hx, hr]
  exact hK a' c' w' h2 h3
end
/-- a list of one's own that lies in a new block -/
theorem OwnT.lit (w : World) (B : Nat) (xs : List (Int × Int)) (cs : Array Value) (n : Nat) (hn : n = xs.length) (hc : cs.toList = linkVs xs) (hB : B ≤ w.heap.size) (hm : xs.length ≤ maxLen) : OwnT B (w.alloc (.cells cs 36)) (.slice (some ⟨w.heap.size, 0, none⟩) n n) xs := by
  subst hn
  have hs : cs.size = xs.length * 2 := by rw [← Array.length_toList, hc, linkVs_len]
  have := World.ownsRow_lit (base := B) (e := 36) (size := 2) w cs xs.length hB hm hs
  rw [hc] at this
  exact this
/-- a part of a list -/
theorem LinksAt.part {w : World} {b o : Nat} {xs : List (Int × Int)} (h : LinksAt w (some ⟨b, o, none⟩) xs) {p m : Nat} (hp : p + m ≤ xs.length) : LinksAt w (some ⟨b, o + p * 2, none⟩) ((xs.drop p).take m) := by
  have hlen : ((xs.drop p).take m).length = m := by rw [List.length_take, List.length_drop]; omega
  refine ⟨by have := h.size; omega, fun h0 => ?_, fun x hx => h.fits x (List.mem_of_mem_drop (List.mem_of_mem_take hx))⟩
  obtain ⟨b', o', e, hb, hc⟩ := h.row (by omega)
  injection e with e
  injection e with e1 e2
  subst e1 e2
  refine ⟨b, o + p * 2, rfl, hb, fun i hi => ?_⟩
  rw [hlen] at hi
  obtain ⟨c0, c1⟩ := hc (p + i) (by omega)
  have e : ((xs.drop p).take m).getD i (0, 0) = xs.getD (p + i) (0, 0) := by
    rw [List.getD_eq_getElem?_getD, List.getD_eq_getElem?_getD, List.getElem?_take_of_lt hi, List.getElem?_drop]
  unfold toA at c0
  unfold wtA at c1
  unfold toA wtA
  rw [e, show o + p * 2 + i * 2 = o + (p + i) * 2 by omega]
  exact ⟨c0, c1⟩
end Go.Proofs.YtdbahiepihkagaaDoor
namespace Go.Proofs.YtdbahiepihkagaaDoor
set_option maxRecDepth 100000
open Go.RowKit

/-- the world ahead of the reader, the rows of names and of tokens, the text -/
structure Sur where
  W : World
  na : Option Addr
  nc : Nat
  ta : Option Addr
  tc : Nat
  tx : Bytes
  ns : List Bytes
  ts : List Tok
def Sur.env (U : Sur) : Env := envF U.tx U.ts U.ns
structure Sur.Ok (U : Sur) : Prop where
  names : NamesAt U.W U.na U.ns
  toks : TokAt U.W U.ta U.ts
  ends : ∀ k, k < U.ts.length → (tkA U.ts k).at_ ≤ (tkA U.ts k).end_ ∧ (tkA U.ts k).end_ ≤ U.tx.length
  good : goodF U.ns = true
  few : U.ts.length ≤ 4096
  short : U.tx.length ≤ 16384
  nums : ∀ k, k < U.ts.length → (tkA U.ts k).num ≤ 1073741824
/-- the reader's struct, behind the old world -/
structure PAt (U : Sur) (w : World) (s : St) : Prop where
  bel : Below U.W.heap.size U.W w
  lt : U.W.heap.size < w.heap.size
  c0 : w.cell? ⟨U.W.heap.size, 0, none⟩ = some (.string (mkS U.tx))
  c1 : w.cell? ⟨U.W.heap.size, 1, none⟩ = some (.slice U.na U.ns.length U.nc)
  c2 : w.cell? ⟨U.W.heap.size, 2, none⟩ = some (.slice U.ta U.ts.length U.tc)
  c3 : w.cell? ⟨U.W.heap.size, 3, none⟩ = some (.int .i64 (s.i : Int))
  c4 : w.cell? ⟨U.W.heap.size, 4, none⟩ = some (.int .i64 (s.err : Int))
  c5 : w.cell? ⟨U.W.heap.size, 5, none⟩ = some (.int .i64 (s.place : Int))
  f3 : w.frozen? ⟨U.W.heap.size, 3, none⟩ = false
  f4 : w.frozen? ⟨U.W.heap.size, 4, none⟩ = false
  f5 : w.frozen? ⟨U.W.heap.size, 5, none⟩ = false
  low : s.i ≤ U.ts.length
theorem PAt.drew {U : Sur} {w : World} {s : St} (h : PAt U w s) (n : Nat) : PAt U (w.drewN n) s :=
  ⟨belDraws h.bel n, h.lt, h.c0, h.c1, h.c2, h.c3, h.c4, h.c5, h.f3, h.f4, h.f5, h.low⟩
theorem mkS_part (l : Bytes) (a e : Nat) : (mkS l).extract a e = mkS ((l.drop a).take (e - a)) := by
  have h : ((mkS l).extract a e).data.toList = (l.drop a).take (e - a) := by
    simp [mkS, ByteArray.data_extract]
  rw [← mkS_data ((mkS l).extract a e), h]
theorem PAt.far {U : Sur} {w w' : World} {s : St} (h : PAt U w s) (hb : Below w.heap.size w w') : PAt U w' s := by
  have hl := h.lt
  refine ⟨h.bel.trans (hb.mono (Nat.le_of_lt hl)), Nat.lt_of_lt_of_le hl hb.size, (hb.cell (p := ⟨U.W.heap.size, 0, none⟩) hl).trans h.c0, (hb.cell (p := ⟨U.W.heap.size, 1, none⟩) hl).trans h.c1, (hb.cell (p := ⟨U.W.heap.size, 2, none⟩) hl).trans h.c2, (hb.cell (p := ⟨U.W.heap.size, 3, none⟩) hl).trans h.c3, (hb.cell (p := ⟨U.W.heap.size, 4, none⟩) hl).trans h.c4, (hb.cell (p := ⟨U.W.heap.size, 5, none⟩) hl).trans h.c5, (hb.frozen (p := ⟨U.W.heap.size, 3, none⟩) hl).trans h.f3, (hb.frozen (p := ⟨U.W.heap.size, 4, none⟩) hl).trans h.f4, (hb.frozen (p := ⟨U.W.heap.size, 5, none⟩) hl).trans h.f5, h.low⟩
theorem setCell_size (w : World) (a : Addr) (v : Value) : (w.setCell a v).heap.size = w.heap.size := by simp [World.setCell]
theorem PAt.set3 {U : Sur} {w : World} {s : St} (h : PAt U w s) (i : Nat) (hi : i ≤ U.ts.length) : PAt U (w.setCell ⟨U.W.heap.size, 3, none⟩ (.int .i64 (i : Int))) { s with i := i } := by
  refine ⟨h.bel.setCell (Nat.le_refl _) _, by rw [setCell_size]; exact h.lt, (set_other (by simp)).trans h.c0, (set_other (by simp)).trans h.c1, (set_other (by simp)).trans h.c2, set_same h.c3, (set_other (by simp)).trans h.c4, (set_other (by simp)).trans h.c5, ?_, ?_, ?_, hi⟩
  · rw [World.frozen?_setCell]; exact h.f3
  · rw [World.frozen?_setCell]; exact h.f4
  · rw [World.frozen?_setCell]; exact h.f5
theorem PAt.set4 {U : Sur} {w : World} {s : St} (h : PAt U w s) (e : Nat) : PAt U (w.setCell ⟨U.W.heap.size, 4, none⟩ (.int .i64 (e : Int))) { s with err := e } := by
  refine ⟨h.bel.setCell (Nat.le_refl _) _, by rw [setCell_size]; exact h.lt, (set_other (by simp)).trans h.c0, (set_other (by simp)).trans h.c1, (set_other (by simp)).trans h.c2, (set_other (by simp)).trans h.c3, set_same h.c4, (set_other (by simp)).trans h.c5, ?_, ?_, ?_, h.low⟩
  · rw [World.frozen?_setCell]; exact h.f3
  · rw [World.frozen?_setCell]; exact h.f4
  · rw [World.frozen?_setCell]; exact h.f5
theorem PAt.set5 {U : Sur} {w : World} {s : St} (h : PAt U w s) (e : Nat) : PAt U (w.setCell ⟨U.W.heap.size, 5, none⟩ (.int .i64 (e : Int))) { s with place := e } := by
  refine ⟨h.bel.setCell (Nat.le_refl _) _, by rw [setCell_size]; exact h.lt, (set_other (by simp)).trans h.c0, (set_other (by simp)).trans h.c1, (set_other (by simp)).trans h.c2, (set_other (by simp)).trans h.c3, (set_other (by simp)).trans h.c4, set_same h.c5, ?_, ?_, ?_, h.low⟩
  · rw [World.frozen?_setCell]; exact h.f3
  · rw [World.frozen?_setCell]; exact h.f4
  · rw [World.frozen?_setCell]; exact h.f5
/-- the token at the reader's place -/
theorem Sur.here {U : Sur} {i : Nat} (h : i < U.ts.length) : U.env.ts[i]? = some (ofTok U.tx (tkA U.ts i)) := env_at h
theorem PAt.tok {U : Sur} (hU : U.Ok) {w : World} {s : St} (h : PAt U w s) (hi : s.i < U.ts.length) : ∃ b, U.ta = some ⟨b, 0, none⟩ ∧ w.cell? ⟨b, s.i * 4, none⟩ = some (.int .i64 ((tkA U.ts s.i).kind : Int)) ∧ w.cell? ⟨b, s.i * 4 + 1, none⟩ = some (.int .i64 ((tkA U.ts s.i).at_ : Int)) ∧
    w.cell? ⟨b, s.i * 4 + 2, none⟩ = some (.int .i64 ((tkA U.ts s.i).end_ : Int)) ∧ w.cell? ⟨b, s.i * 4 + 3, none⟩ = some (.int .i64 ((tkA U.ts s.i).num : Int)) := by
  obtain ⟨b, hb, _, hc⟩ := (hU.toks.below h.bel rfl).row (by omega)
  exact ⟨b, hb, hc s.i hi⟩
end Go.Proofs.YtdbahiepihkagaaDoor
namespace Go.Proofs.YtdbahiepihkagaaDoor
set_option maxRecDepth 100000
open Go.RowKit

/-- a step of the reader: its struct's new state, and no other old block turned -/
structure Step6 (U : Sur) (w w' : World) (s' : St) : Prop where
  at_ : PAt U w' s'
  grow : w.grownBy w' (some U.W.heap.size)
theorem grown_set6 (w : World) (b i : Nat) (v : Value) : w.grownBy (w.setCell ⟨b, i, none⟩ v) (some b) :=
  ⟨rfl, rfl, rfl, by simp [World.setCell], fun k _ hne => Below.heap_setCell w _ _ k (by intro e; exact hne (by rw [e]))⟩
theorem grown_draws (w : World) (n : Nat) (r : Option Nat) : w.grownBy (w.drewN n) r := ⟨rfl, rfl, rfl, Nat.le_refl _, fun _ _ _ => rfl⟩
theorem fail_bad {V : Env} {s : St} (h : s.err ≠ 0) (e : Nat) : V.fail s e = s := by unfold Env.fail; rw [if_pos h]
theorem fail_good {V : Env} {s : St} (h : s.err = 0) (e : Nat) : V.fail s e = ⟨s.i, e, V.here s⟩ := by unfold Env.fail; rw [if_neg (by omega)]
theorem take_in {U : Sur} {s : St} {x : Bytes} (hx : x ≠ []) (h : U.env.word s = x) : s.err = 0 ∧ s.i < U.ts.length := by
  have := in_of (V := U.env) (s := s) (by rw [h]; exact hx)
  exact ⟨this.1, by have := this.2; rwa [show U.env.ts.length = U.ts.length from env_len _ _ _] at this⟩
end Go.Proofs.YtdbahiepihkagaaDoor
