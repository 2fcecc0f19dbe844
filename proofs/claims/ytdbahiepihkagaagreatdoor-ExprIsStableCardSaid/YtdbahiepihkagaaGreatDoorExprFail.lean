/- What Fail, Take, Want and variable of the specification of layer 6 do. -/
import Derived.Test.YtdbahiepihkagaaGreatDoorTermR8
import Derived.Test.YtdbahiepihkagaaGreatDoorExprNames
import Derived.Test.YtdbahiepihkagaaGreatDoorExprTree
namespace Go.Proofs.YtdbahiepihkagaaGreatDoor
set_option maxRecDepth 100000
open Go.RowKit

theorem linkVs_append (ys xs : List (Int × Int)) : linkVs (ys ++ xs) = linkVs ys ++ linkVs xs := by simp [linkVs]
section
variable {ops : Array Oper} {o : Oper} {a : Act} {w W : World} {K : Act → World → Prop} {Q : Exit → Act → World → Prop} {E : Prop} {rest : List Oper}
/-- a list that is not empty is appended to a list of one's own -/
theorem run_appT (ty : TypeId) (B : Nat) (v : Value) (ys : List (Int × Int)) (hown : OwnT B w v ys) (la : Option Addr) (lc : Nat) (xs : List (Int × Int)) (h : LinksAt w la xs) (h0 : 0 < xs.length) (hl : ys.length + xs.length ≤ 1000000) (hB : B ≤ w.heap.size) :
    ∃ a' c' w', (Builtin.append_ #[25, 25] ty #[v, .slice la xs.length lc]).run Tryz.prog w = .ok (.slice a' (ys.length + xs.length) c') w' ∧ OwnT B w' (.slice a' (ys.length + xs.length) c') (ys ++ xs) ∧ w.grownBy w' v.ownBlock := by
  obtain ⟨i, hi, hz, hz1, hz2⟩ := info_parts infoTerm
  obtain ⟨b, off, rfl, _⟩ := h.row h0
  obtain ⟨v', w', hr, h2, h3, _⟩ := run_append_own (P := Tryz.prog) w B 25 ty 55 i (.agg #[.int .i64 0, .int .i64 0]) 2 16 Tryz.underlying25 hi hz hz1 hz2 rfl (by decide) v ys.length (linkVs ys) hown ⟨b, off, none⟩ xs.length lc (linkVs xs) (linkVs_len xs) (links_cells h) linkVs_one (by unfold maxLen; omega) (by omega) hB
  rw [← linkVs_append] at h2
  have h2' : OwnT B w' v' (ys ++ xs) := by
    unfold OwnT
    rw [List.length_append]
    exact h2
  obtain ⟨a', c', e, _⟩ := h2'.shape
  rw [List.length_append] at e
  subst e
  exact ⟨a', c', w', hr, h2', h3⟩
theorem wpList_appT (hgd : o.guard = none) (s x : Operand) (ho : o.op = .call { callee := .builtin .append, args := #[s, x], argTypes := #[25, 25] })
    (B : Nat) (v : Value) (ys : List (Int × Int)) (n : Nat) (hn : n = ys.length) (hown : OwnT B w v ys) (la : Option Addr) (lc : Nat) (xs : List (Int × Int)) (m : Nat) (hm : m = xs.length) (hs' : a.eval s = v) (hx : a.eval x = .slice la m lc) (h : LinksAt w la xs) (h0 : 0 < xs.length) (hl : ys.length + xs.length ≤ 1000000) (hB : B ≤ w.heap.size)
    (hK : ∀ a' c' w', OwnT B w' (.slice a' (n + m) c') (ys ++ xs) → w.grownBy w' v.ownBlock → wpList Tryz.prog ops Q rest (a.put o.dst (.slice a' (n + m) c')) w') :
    wpList Tryz.prog ops Q (o :: rest) a w := by
  subst hn hm
  refine wpList_plain hgd fun K hK' => ?_
  obtain ⟨a', c', w', hr, h2, h3⟩ := run_appT o.type B v ys hown la lc xs h h0 hl hB
  unfold Oper.wp execOp
  simp only [ho, resolve, invoke, builtin, Sem.run_bind, Sem.run_pure, Result.andThen_ok, List.map_toArray, List.map_cons, List.map_nil, hs', hx, hr]
  exact hK' _ _ (hK a' c' w' h2 h3)
theorem step_appT (hgd : o.guard = none) (s x : Operand) (ho : o.op = .call { callee := .builtin .append, args := #[s, x], argTypes := #[25, 25] })
    (B : Nat) (v : Value) (ys : List (Int × Int)) (n : Nat) (hn : n = ys.length) (hown : OwnT B w v ys) (la : Option Addr) (lc : Nat) (xs : List (Int × Int)) (m : Nat) (hm : m = xs.length) (hs' : a.eval s = v) (hx : a.eval x = .slice la m lc) (h : LinksAt w la xs) (h0 : 0 < xs.length) (hl : ys.length + xs.length ≤ 1000000) (hB : B ≤ w.heap.size)
    (hK : ∀ a' c' w', OwnT B w' (.slice a' (n + m) c') (ys ++ xs) → w.grownBy w' v.ownBlock → K (a.put o.dst (.slice a' (n + m) c')) w') :
    if Region.wanted o (yielded ops a.tmps) = true then Oper.wp Tryz.prog o a w K Q else E := by
  subst hn hm
  have hw : Region.wanted o (yielded ops a.tmps) = true := by simp [Region.wanted, hgd]
  rw [if_pos hw]
  obtain ⟨a', c', w', hr, h2, h3⟩ := run_appT o.type B v ys hown la lc xs h h0 hl hB
  unfold Oper.wp execOp
  simp only [ho, resolve, invoke, builtin, Sem.run_bind, Sem.run_pure, Result.andThen_ok, List.map_toArray, List.map_cons, List.map_nil, hs', hx, hr]
  exact hK a' c' w' h2 h3
end
/-- a list of one's own that lies in a new block -/
theorem OwnT.lit (w : World) (B : Nat) (xs : List (Int × Int)) (cs : Array Value) (n : Nat) (hn : n = xs.length) (hc : cs.toList = linkVs xs) (hB : B ≤ w.heap.size) (hm : xs.length ≤ maxLen) : OwnT B (w.alloc (.cells cs 55)) (.slice (some ⟨w.heap.size, 0, none⟩) n n) xs := by
  subst hn
  have hs : cs.size = xs.length * 2 := by rw [← Array.length_toList, hc, linkVs_len]
  have := World.ownsRow_lit (base := B) (e := 55) (size := 2) w cs xs.length hB hm hs
  rw [hc] at this
  exact this
/-- a part of a list -/
theorem LinksAt.part {w : World} {b o : Nat} {xs : List (Int × Int)} (h : LinksAt w (some ⟨b, o, none⟩) xs) {p m : Nat} (hp : p + m ≤ xs.length) : LinksAt w (some ⟨b, o + p * 2, none⟩) ((xs.drop p).take m) := by
  have hlen : ((xs.drop p).take m).length = m := by rw [List.length_take, List.length_drop]; omega
  refine ⟨by have := h.size; omega, fun h0 => ?_, fun x hx => h.fits x (List.mem_of_mem_drop (List.mem_of_mem_take hx))⟩
  obtain ⟨b', o', e, hb, hc⟩ := h.row (by omega)
  injection e with e
  injection e with e1 e2
  subst e1 e2
  refine ⟨b, o + p * 2, rfl, hb, fun i hi => ?_⟩
  rw [hlen] at hi
  obtain ⟨c0, c1⟩ := hc (p + i) (by omega)
  have e : ((xs.drop p).take m).getD i (0, 0) = xs.getD (p + i) (0, 0) := by
    rw [List.getD_eq_getElem?_getD, List.getD_eq_getElem?_getD, List.getElem?_take_of_lt hi, List.getElem?_drop]
  unfold toA at c0
  unfold wtA at c1
  unfold toA wtA
  rw [e, show o + p * 2 + i * 2 = o + (p + i) * 2 by omega]
  exact ⟨c0, c1⟩
end Go.Proofs.YtdbahiepihkagaaGreatDoor
namespace Go.Proofs.YtdbahiepihkagaaGreatDoor
set_option maxRecDepth 100000
open Go.RowKit

/-- the world ahead of the reader, the rows of names and of tokens, the text -/
structure Sur where
  W : World
  na : Option Addr
  nc : Nat
  ta : Option Addr
  tc : Nat
  tx : Bytes
  ns : List Bytes
  ts : List Tok
def Sur.env (U : Sur) : Env := envF U.tx U.ts U.ns
structure Sur.Ok (U : Sur) : Prop where
  names : NamesAt U.W U.na U.ns
  toks : TokAt U.W U.ta U.ts
  ends : ∀ k, k < U.ts.length → (tkA U.ts k).at_ ≤ (tkA U.ts k).end_ ∧ (tkA U.ts k).end_ ≤ U.tx.length
  good : goodF U.ns = true
  few : U.ts.length ≤ 4096
  short : U.tx.length ≤ 16384
  nums : ∀ k, k < U.ts.length → (tkA U.ts k).num ≤ 1073741824
/-- the reader's struct, behind the old world -/
structure PAt (U : Sur) (w : World) (s : St) : Prop where
  bel : Below U.W.heap.size U.W w
  lt : U.W.heap.size < w.heap.size
  c0 : w.cell? ⟨U.W.heap.size, 0, none⟩ = some (.string (mkS U.tx))
  c1 : w.cell? ⟨U.W.heap.size, 1, none⟩ = some (.slice U.na U.ns.length U.nc)
  c2 : w.cell? ⟨U.W.heap.size, 2, none⟩ = some (.slice U.ta U.ts.length U.tc)
  c3 : w.cell? ⟨U.W.heap.size, 3, none⟩ = some (.int .i64 (s.i : Int))
  c4 : w.cell? ⟨U.W.heap.size, 4, none⟩ = some (.int .i64 (s.err : Int))
  c5 : w.cell? ⟨U.W.heap.size, 5, none⟩ = some (.int .i64 (s.place : Int))
  f3 : w.frozen? ⟨U.W.heap.size, 3, none⟩ = false
  f4 : w.frozen? ⟨U.W.heap.size, 4, none⟩ = false
  f5 : w.frozen? ⟨U.W.heap.size, 5, none⟩ = false
  low : s.i ≤ U.ts.length
theorem PAt.drew {U : Sur} {w : World} {s : St} (h : PAt U w s) (n : Nat) : PAt U (w.drewN n) s :=
  ⟨belDraws h.bel n, h.lt, h.c0, h.c1, h.c2, h.c3, h.c4, h.c5, h.f3, h.f4, h.f5, h.low⟩
theorem mkS_part (l : Bytes) (a e : Nat) : (mkS l).extract a e = mkS ((l.drop a).take (e - a)) := by
  have h : ((mkS l).extract a e).data.toList = (l.drop a).take (e - a) := by
    simp [mkS, ByteArray.data_extract]
  rw [← mkS_data ((mkS l).extract a e), h]
theorem PAt.far {U : Sur} {w w' : World} {s : St} (h : PAt U w s) (hb : Below w.heap.size w w') : PAt U w' s := by
  have hl := h.lt
  refine ⟨h.bel.trans (hb.mono (Nat.le_of_lt hl)), Nat.lt_of_lt_of_le hl hb.size, (hb.cell (p := ⟨U.W.heap.size, 0, none⟩) hl).trans h.c0, (hb.cell (p := ⟨U.W.heap.size, 1, none⟩) hl).trans h.c1, (hb.cell (p := ⟨U.W.heap.size, 2, none⟩) hl).trans h.c2, (hb.cell (p := ⟨U.W.heap.size, 3, none⟩) hl).trans h.c3, (hb.cell (p := ⟨U.W.heap.size, 4, none⟩) hl).trans h.c4, (hb.cell (p := ⟨U.W.heap.size, 5, none⟩) hl).trans h.c5, (hb.frozen (p := ⟨U.W.heap.size, 3, none⟩) hl).trans h.f3, (hb.frozen (p := ⟨U.W.heap.size, 4, none⟩) hl).trans h.f4, (hb.frozen (p := ⟨U.W.heap.size, 5, none⟩) hl).trans h.f5, h.low⟩
theorem setCell_size (w : World) (a : Addr) (v : Value) : (w.setCell a v).heap.size = w.heap.size := by simp [World.setCell]
theorem PAt.set3 {U : Sur} {w : World} {s : St} (h : PAt U w s) (i : Nat) (hi : i ≤ U.ts.length) : PAt U (w.setCell ⟨U.W.heap.size, 3, none⟩ (.int .i64 (i : Int))) { s with i := i } := by
  refine ⟨h.bel.setCell (Nat.le_refl _) _, by rw [setCell_size]; exact h.lt, (set_other (by simp)).trans h.c0, (set_other (by simp)).trans h.c1, (set_other (by simp)).trans h.c2, set_same h.c3, (set_other (by simp)).trans h.c4, (set_other (by simp)).trans h.c5, ?_, ?_, ?_, hi⟩
  · rw [World.frozen?_setCell]; exact h.f3
  · rw [World.frozen?_setCell]; exact h.f4
  · rw [World.frozen?_setCell]; exact h.f5
theorem PAt.set4 {U : Sur} {w : World} {s : St} (h : PAt U w s) (e : Nat) : PAt U (w.setCell ⟨U.W.heap.size, 4, none⟩ (.int .i64 (e : Int))) { s with err := e } := by
  refine ⟨h.bel.setCell (Nat.le_refl _) _, by rw [setCell_size]; exact h.lt, (set_other (by simp)).trans h.c0, (set_other (by simp)).trans h.c1, (set_other (by simp)).trans h.c2, (set_other (by simp)).trans h.c3, set_same h.c4, (set_other (by simp)).trans h.c5, ?_, ?_, ?_, h.low⟩
  · rw [World.frozen?_setCell]; exact h.f3
  · rw [World.frozen?_setCell]; exact h.f4
  · rw [World.frozen?_setCell]; exact h.f5
theorem PAt.set5 {U : Sur} {w : World} {s : St} (h : PAt U w s) (e : Nat) : PAt U (w.setCell ⟨U.W.heap.size, 5, none⟩ (.int .i64 (e : Int))) { s with place := e } := by
  refine ⟨h.bel.setCell (Nat.le_refl _) _, by rw [setCell_size]; exact h.lt, (set_other (by simp)).trans h.c0, (set_other (by simp)).trans h.c1, (set_other (by simp)).trans h.c2, (set_other (by simp)).trans h.c3, (set_other (by simp)).trans h.c4, set_same h.c5, ?_, ?_, ?_, h.low⟩
  · rw [World.frozen?_setCell]; exact h.f3
  · rw [World.frozen?_setCell]; exact h.f4
  · rw [World.frozen?_setCell]; exact h.f5
/-- the token at the reader's place -/
theorem Sur.here {U : Sur} {i : Nat} (h : i < U.ts.length) : U.env.ts[i]? = some (ofTok U.tx (tkA U.ts i)) := env_at h
theorem PAt.tok {U : Sur} (hU : U.Ok) {w : World} {s : St} (h : PAt U w s) (hi : s.i < U.ts.length) : ∃ b, U.ta = some ⟨b, 0, none⟩ ∧ w.cell? ⟨b, s.i * 4, none⟩ = some (.int .i64 ((tkA U.ts s.i).kind : Int)) ∧ w.cell? ⟨b, s.i * 4 + 1, none⟩ = some (.int .i64 ((tkA U.ts s.i).at_ : Int)) ∧
    w.cell? ⟨b, s.i * 4 + 2, none⟩ = some (.int .i64 ((tkA U.ts s.i).end_ : Int)) ∧ w.cell? ⟨b, s.i * 4 + 3, none⟩ = some (.int .i64 ((tkA U.ts s.i).num : Int)) := by
  obtain ⟨b, hb, _, hc⟩ := (hU.toks.below h.bel rfl).row (by omega)
  exact ⟨b, hb, hc s.i hi⟩
set_option maxHeartbeats 1000000 in
theorem wordP_any (U : Sur) (hU : U.Ok) (s : St) (w : World) (h : PAt U w s) :
    Calls Tryz.prog 142 #[.pointer (some ⟨U.W.heap.size, 0, none⟩)] w fun e w' => e = .returned (.string (mkS (U.env.word s))) ∧ ∃ m, w' = w.drewN m := by
  have hc0 := h.c0
  have hc2 := h.c2
  have hc3 := h.c3
  have hc4 := h.c4
  have HW : Hid (U.env.word s = if s.err ≠ 0 then [] else ((U.env.ts[s.i]?).map (·.word)).getD []) := Lib.hid rfl
  have HT := Lib.hid (h.tok hU)
  have HE := Lib.hid (fun hi => (hU.ends s.i hi))
  have HH := Lib.hid (fun hi => U.here (i := s.i) hi)
  have hlow := h.low
  have hfew := hU.few
  have hsh := hU.short
  have HL := Lib.hid (mkS_size U.tx)
  clear h hU
  generalize U.W.heap.size = pb at *
  obtain ⟨i, er, pl⟩ := s
  dsimp only at *
  by_cases he : er = 0
  case neg =>
    have hv : U.env.word ⟨i, er, pl⟩ = [] := by rw [HW.out, if_pos he]
    rw [hv]
    have hd : ((er : Int) == 0) = false := by simp; omega
    clear hv HW
    go_enter Tryz.func142, Tryz.ntmps142
    go_wp2
    go_quiet (fail)
    go_wp2
    go_ret
    exact ⟨rfl, _, rfl⟩
  subst he
  have hd : (((0 : Nat) : Int) == 0) = true := rfl
  obtain ⟨m, hm⟩ : ∃ m, m = U.ts.length := ⟨_, rfl⟩
  have HM := Lib.hid hm
  rw [← hm] at hc2 hlow hfew
  by_cases hi : i < m
  case neg =>
    have hv : U.env.word ⟨i, 0, pl⟩ = [] := by
      rw [HW.out, if_neg (by simp)]
      have : U.env.ts[i]? = none := env_out (by rw [← HM.out]; omega)
      rw [this]
      rfl
    rw [hv]
    have hge : decide ((i : Int) ≥ (m : Int)) = true := by simp; omega
    clear hv HW hm
    go_enter Tryz.func142, Tryz.ntmps142
    go_wp2
    go_quiet (fail)
    go_wp2
    go_ret
    exact ⟨rfl, _, rfl⟩
  have hi2 : i < U.ts.length := by rw [← hm]; exact hi
  obtain ⟨b, hb, k0, k1, k2, k3⟩ := HT.out hi2
  obtain ⟨ha, hz⟩ := HE.out hi2
  have hv : U.env.word ⟨i, 0, pl⟩ = (U.tx.drop (tkA U.ts i).at_).take ((tkA U.ts i).end_ - (tkA U.ts i).at_) := by
    rw [HW.out, if_neg (by simp), HH.out hi2]
    rfl
  have hpart := mkS_part U.tx (tkA U.ts i).at_ (tkA U.ts i).end_
  rw [← hv] at hpart
  have hge : decide ((i : Int) ≥ (m : Int)) = false := by simp; omega
  have hsz : (mkS U.tx).size = U.tx.length := HL.out
  rw [hb] at hc2
  generalize (tkA U.ts i).at_ = A at *
  generalize (tkA U.ts i).end_ = E at *
  generalize mkS U.tx = X at *
  generalize mkS (U.env.word ⟨i, 0, pl⟩) = Y at *
  have q1 : (0 : Int) ≤ (i : Int) := by omega
  have q2 : (i : Int) < (m : Int) := by omega
  have q3 : (A : Int) ≤ (E : Int) := by omega
  have q4 : (E : Int) ≤ (X.size : Int) := by omega
  have q5 : (0 : Int) ≤ (A : Int) := by omega
  clear hv HW hm HT HE HH k0 k3 HL
  go_enter Tryz.func142, Tryz.ntmps142
  go_wp2
  go_quiet (fail)
  go_wp2
  go_quiet (fail)
  go_wp2
  go_ret
  exact ⟨by rw [← hpart]; rfl, _, World.drewN_drewN _ _ _⟩
set_option maxHeartbeats 1000000 in
theorem kindP_any (U : Sur) (hU : U.Ok) (s : St) (w : World) (h : PAt U w s) :
    Calls Tryz.prog 193 #[.pointer (some ⟨U.W.heap.size, 0, none⟩)] w fun e w' => e = .returned (.int .i64 (U.env.kind s : Int)) ∧ ∃ m, w' = w.drewN m := by
  have hc0 := h.c0
  have hc2 := h.c2
  have hc3 := h.c3
  have hc4 := h.c4
  have HW : Hid (U.env.kind s = if s.err ≠ 0 then 0 else ((U.env.ts[s.i]?).map (·.kind)).getD 0) := Lib.hid rfl
  have HT := Lib.hid (h.tok hU)
  have HE := Lib.hid (fun hi => (hU.ends s.i hi))
  have HH := Lib.hid (fun hi => U.here (i := s.i) hi)
  have hlow := h.low
  have hfew := hU.few
  have hsh := hU.short
  have HL := Lib.hid (mkS_size U.tx)
  clear h hU
  generalize U.W.heap.size = pb at *
  obtain ⟨i, er, pl⟩ := s
  dsimp only at *
  by_cases he : er = 0
  case neg =>
    have hv : U.env.kind ⟨i, er, pl⟩ = 0 := by rw [HW.out, if_pos he]
    rw [hv]
    have hd : ((er : Int) == 0) = false := by simp; omega
    clear hv HW
    go_enter Tryz.func193, Tryz.ntmps193
    go_wp2
    go_quiet (fail)
    go_wp2
    go_ret
    exact ⟨rfl, _, rfl⟩
  subst he
  have hd : (((0 : Nat) : Int) == 0) = true := rfl
  obtain ⟨m, hm⟩ : ∃ m, m = U.ts.length := ⟨_, rfl⟩
  have HM := Lib.hid hm
  rw [← hm] at hc2 hlow hfew
  by_cases hi : i < m
  case neg =>
    have hv : U.env.kind ⟨i, 0, pl⟩ = 0 := by
      rw [HW.out, if_neg (by simp)]
      have : U.env.ts[i]? = none := env_out (by rw [← HM.out]; omega)
      rw [this]
      rfl
    rw [hv]
    have hge : decide ((i : Int) ≥ (m : Int)) = true := by simp; omega
    clear hv HW hm
    go_enter Tryz.func193, Tryz.ntmps193
    go_wp2
    go_quiet (fail)
    go_wp2
    go_ret
    exact ⟨rfl, _, rfl⟩
  have hi2 : i < U.ts.length := by rw [← hm]; exact hi
  obtain ⟨b, hb, k0, k1, k2, k3⟩ := HT.out hi2
  obtain ⟨ha, hz⟩ := HE.out hi2
  have hv : U.env.kind ⟨i, 0, pl⟩ = (tkA U.ts i).kind := by
    rw [HW.out, if_neg (by simp), HH.out hi2]
    rfl
  rw [hv]
  have hge : decide ((i : Int) ≥ (m : Int)) = false := by simp; omega
  rw [hb] at hc2
  generalize (tkA U.ts i).kind = A at *
  have q1 : (0 : Int) ≤ (i : Int) := by omega
  have q2 : (i : Int) < (m : Int) := by omega
  clear hv HW hm HT HE HH k1 k2 k3 HL ha hz
  go_enter Tryz.func193, Tryz.ntmps193
  go_wp2
  go_quiet (fail)
  go_wp2
  go_quiet (fail)
  go_wp2
  go_ret
  exact ⟨rfl, _, by first | rfl | exact World.drewN_drewN _ _ _⟩
end Go.Proofs.YtdbahiepihkagaaGreatDoor
namespace Go.Proofs.YtdbahiepihkagaaGreatDoor
set_option maxRecDepth 100000
open Go.RowKit

/-- a step of the reader: its struct's new state, and no other old block turned -/
structure Step6 (U : Sur) (w w' : World) (s' : St) : Prop where
  at_ : PAt U w' s'
  grow : w.grownBy w' (some U.W.heap.size)
theorem grown_set6 (w : World) (b i : Nat) (v : Value) : w.grownBy (w.setCell ⟨b, i, none⟩ v) (some b) :=
  ⟨rfl, rfl, rfl, by simp [World.setCell], fun k _ hne => Below.heap_setCell w _ _ k (by intro e; exact hne (by rw [e]))⟩
theorem grown_draws (w : World) (n : Nat) (r : Option Nat) : w.grownBy (w.drewN n) r := ⟨rfl, rfl, rfl, Nat.le_refl _, fun _ _ _ => rfl⟩
theorem fail_bad {V : Env} {s : St} (h : s.err ≠ 0) (e : Nat) : V.fail s e = s := by unfold Env.fail; rw [if_pos h]
theorem fail_good {V : Env} {s : St} (h : s.err = 0) (e : Nat) : V.fail s e = ⟨s.i, e, V.here s⟩ := by unfold Env.fail; rw [if_neg (by omega)]
set_option maxHeartbeats 1000000 in
theorem failP_any (U : Sur) (hU : U.Ok) (s : St) (w : World) (h : PAt U w s) (e0 : Nat) :
    Calls Tryz.prog 39 #[.pointer (some ⟨U.W.heap.size, 0, none⟩), .int .i64 (e0 : Int)] w fun e w' => e = .returned (.tuple #[]) ∧ Step6 U w w' (U.env.fail s e0) := by
  have HP := Lib.hid h
  have hc0 := h.c0
  have hc2 := h.c2
  have hc3 := h.c3
  have hc4 := h.c4
  have hc5 := h.c5
  have hf4 := h.f4
  have hf5 := h.f5
  have hlow := h.low
  have hfew := hU.few
  have hsh := hU.short
  have hL := mkS_size U.tx
  by_cases he : s.err = 0
  case neg =>
    have HF := Lib.hid (fail_bad (V := U.env) he e0)
    have hd : ((s.err : Int) == 0) = false := by simp; omega
    have HG := Lib.hid (World.grownBy.refl w (some U.W.heap.size))
    clear h hU hf4 hf5
    generalize hpb : U.W.heap.size = pb at *
    go_enter Tryz.func39, Tryz.ntmps39
    go_wp2
    (try simp only [Exit.inBlock, Exit.then])
    refine bodyPost_ret (results_none rfl _ _ _) rfl ?_
    exact ⟨rfl, by rw [HF.out]; exact HP.out, by rw [hpb]; exact HG.out⟩
  have hd : ((s.err : Int) == 0) = true := by simp; omega
  have h2 := (h.set4 e0).set5 U.tx.length
  have hg2 := (grown_set6 w U.W.heap.size 4 (.int .i64 (e0 : Int))).trans (grown_set6 _ U.W.heap.size 5 (.int .i64 (U.tx.length : Int)))
  have HP2 := Lib.hid h2
  have HG2 := Lib.hid hg2
  have HU := Lib.hid hU
  have hX : (mkS U.tx).size = U.tx.length := hL
  have HF := Lib.hid (fail_good (V := U.env) he e0)
  have d5 : ((w.setCell ⟨U.W.heap.size, 4, none⟩ (.int .i64 (e0 : Int))).cell? ⟨U.W.heap.size, 5, none⟩) = some (.int .i64 (s.place : Int)) := (h.set4 e0).c5
  have g5 : (w.setCell ⟨U.W.heap.size, 4, none⟩ (.int .i64 (e0 : Int))).frozen? ⟨U.W.heap.size, 5, none⟩ = false := (h.set4 e0).f5
  clear h hU h2 hg2 hc2 hc3
  generalize hpb : U.W.heap.size = pb at *
  generalize mkS U.tx = X at *
  go_enter Tryz.func39, Tryz.ntmps39
  go_wp2_with fail
  clear hc0 hc4 hc5 hf4 hf5 d5 g5
  obtain ⟨W2, hW2⟩ : ∃ x, x = (w.setCell ⟨pb, 4, none⟩ (.int .i64 (e0 : Int))).setCell ⟨pb, 5, none⟩ (.int .i64 (U.tx.length : Int)) := ⟨_, rfl⟩
  rw [← hW2] at HP2 HG2 ⊢
  clear hW2
  have k2 := HP2.out.c2
  have k3 := HP2.out.c3
  have k5 := HP2.out.c5
  have f5 := HP2.out.f5
  rw [hpb] at k2 k3 k5 f5
  dsimp only at k3 k5
  by_cases hi : s.i < U.ts.length
  case neg =>
    have hh : U.env.here s = U.tx.length := by
      unfold Env.here
      have : U.env.ts[s.i]? = none := env_out (by omega)
      rw [this]
      rfl
    have hlt : decide ((s.i : Int) < (U.ts.length : Int)) = false := by simp; omega
    go_quiet (fail)
    go_wp2
    go_end0
    exact ⟨rfl, by rw [HF.out, hh]; exact (HP2.out).drew _, by rw [hpb]; exact HG2.out.trans (grown_draws _ _ _)⟩
  obtain ⟨b, hb, t0, t1, t2, t3⟩ := HP2.out.tok HU.out hi
  dsimp only at t1
  have hh : U.env.here s = (tkA U.ts s.i).at_ := by
    unfold Env.here
    rw [U.here hi]
    rfl
  have hlt : (s.i : Int) < (U.ts.length : Int) := by omega
  have h0 : (0 : Int) ≤ (s.i : Int) := by omega
  rw [hb] at k2
  clear t0 t2 t3
  rw [hh] at HF
  generalize (tkA U.ts s.i).at_ = A at *
  generalize U.ts.length = m at *
  generalize s.i = i at *
  go_quiet (fail)
  go_wp2_with fail
  go_region
  go_wp2
  go_end0
  refine ⟨rfl, ?_, ?_⟩
  · have := (HP2.out.drew (nq + 1)).set5 A
    rw [hpb] at this
    rw [HF.out]
    exact this
  · rw [hpb]
    exact (HG2.out.trans (grown_draws W2 (nq + 1) _)).trans (grown_set6 _ pb 5 _)
theorem take_in {U : Sur} {s : St} {x : Bytes} (hx : x ≠ []) (h : U.env.word s = x) : s.err = 0 ∧ s.i < U.ts.length := by
  have := in_of (V := U.env) (s := s) (by rw [h]; exact hx)
  exact ⟨this.1, by have := this.2; rwa [show U.env.ts.length = U.ts.length from env_len _ _ _] at this⟩
set_option maxHeartbeats 1000000 in
theorem takeP_any (U : Sur) (hU : U.Ok) (s : St) (w : World) (h : PAt U w s) (x : Bytes) (hx : x ≠ []) :
    Calls Tryz.prog 76 #[.pointer (some ⟨U.W.heap.size, 0, none⟩), .string (mkS x)] w fun e w' => e = .returned (.bool (decide (U.env.word s = x))) ∧ Step6 U w w' (if U.env.word s = x then s.adv else s) := by
  have HWd := Lib.hid (wordP_any U hU s w h)
  have HP := Lib.hid h
  have HT := Lib.hid (take_in (U := U) (s := s) hx)
  have HE := Lib.hid (fun (l : Bytes) => mkS_eq l x)
  have hc3 := h.c3
  have hf3 := h.f3
  have hlow := h.low
  have hfew := hU.few
  clear h hU
  generalize hpb : U.W.heap.size = pb at *
  generalize U.env.word s = y at *
  by_cases hy : y = x
  case neg =>
    have hb := mkS_not hy
    rw [if_neg hy, decide_eq_false hy]
    clear HE hc3 hf3
    go_enter Tryz.func76, Tryz.ntmps76
    go_wp2_with (go_at_call 142; refine HWd.out.mono ?_; rintro e w1 ⟨rfl, m, rfl⟩)
    go_ret
    exact ⟨rfl, HP.out.drew m, by rw [hpb]; exact grown_draws _ _ _⟩
  subst hy
  rw [if_pos rfl, decide_eq_true rfl]
  have hb := mkS_same y
  obtain ⟨_, hi⟩ := HT.out rfl
  clear HE HT
  generalize hm : U.ts.length = n at *
  have HS : Hid (∀ m, PAt U ((w.drewN m).setCell ⟨pb, 3, none⟩ (.int .i64 ((s.i + 1 : Nat) : Int))) s.adv) := Lib.hid (fun m => by
    have := (HP.out.drew m).set3 (s.i + 1) (by rw [hm]; omega)
    rwa [hpb] at this)
  clear HP
  obtain ⟨i, er, pl⟩ := s
  dsimp only at hi hc3 hlow HS
  go_enter Tryz.func76, Tryz.ntmps76
  go_wp2_with (go_at_call 142; refine HWd.out.mono ?_; rintro e w1 ⟨rfl, m, rfl⟩)
  go_ret
  refine ⟨rfl, HS.out m, ?_⟩
  rw [hpb]
  exact (grown_draws w m _).trans (grown_set6 _ pb 3 _)
set_option maxHeartbeats 1000000 in
theorem wantP_any (U : Sur) (hU : U.Ok) (s : St) (w : World) (h : PAt U w s) (x : Bytes) (hx : x ≠ []) :
    Calls Tryz.prog 77 #[.pointer (some ⟨U.W.heap.size, 0, none⟩), .string (mkS x)] w fun e w' => e = .returned (.tuple #[]) ∧ Step6 U w w' (U.env.want x s) := by
  have HT := Lib.hid (takeP_any U hU s w h x hx)
  have HF := Lib.hid (fun W (h : PAt U W s) => failP_any U hU s W h 4)
  have HE : Hid (U.env.want x s = if U.env.word s = x then s.adv else U.env.fail s 4) := Lib.hid rfl
  clear h hU
  generalize hpb : U.W.heap.size = pb at *
  generalize U.env.want x s = s2 at *
  generalize U.env.word s = y at *
  by_cases hy : y = x
  · rw [decide_eq_true hy, if_pos hy] at HT
    rw [if_pos hy] at HE
    clear HF
    go_enter Tryz.func77, Tryz.ntmps77
    go_wp2_with (go_at_call 76; refine HT.out.mono ?_; rintro e w1 ⟨rfl, h1⟩)
    go_end0
    exact ⟨rfl, by rw [HE.out]; exact h1⟩
  · rw [decide_eq_false hy, if_neg hy] at HT
    rw [if_neg hy] at HE
    go_enter Tryz.func77, Tryz.ntmps77
    go_wp2_with (first | (go_at_call 76; refine HT.out.mono ?_; rintro e w1 ⟨rfl, h1⟩) | (go_at_call 39; refine (HF.out _ h1.at_).mono ?_; rintro e w2 ⟨rfl, h2⟩))
    go_end0
    exact ⟨rfl, by rw [HE.out]; exact ⟨h2.at_, h1.grow.trans h2.grow⟩⟩
end Go.Proofs.YtdbahiepihkagaaGreatDoor
