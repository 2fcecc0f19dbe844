/- take, takeAhead and expect of the program's reader. -/
import Derived.Test.YtdbahiepihkagaaGreatDoorExprWx
import Derived.Test.YtdbahiepihkagaaGreatDoorExprBack
import Derived.Laws.CopyRow
import Derived.Lib.AppendZeros
import Derived.Lib.AppendZerosOnto
import Derived.Lib.Overlaps
import Derived.Laws.Externs
import Derived.Shelf.RegionOpenPlain
import Derived.Test.YtdbahiepihkagaaGreatDoorExprPlace
namespace Go.Proofs.YtdbahiepihkagaaGreatDoor
set_option maxRecDepth 100000
open Go.RowKit

theorem WIs.top {U : Wup} (hU : U.Ok) {w : World} {l : Bytes} {t : Int × Int} {ys : List (Int × Int)} (h : WIs U w l (t :: ys)) : ∃ b o c, w.cell? ⟨U.W0.heap.size, 2, none⟩ = some (.slice (some ⟨b, o, none⟩) (ys.length + 1) c) ∧ ys.length + 1 ≤ c ∧ b < U.W0.heap.size ∧ w.cell? ⟨b, o, none⟩ = some (.int .i64 t.1) ∧ w.cell? ⟨b, o + 1, none⟩ = some (.int .i64 t.2) ∧ w.frozen? ⟨U.W0.heap.size, 2, none⟩ = false ∧
    ∀ (w' : World) (a' : Option Addr) (c' : Nat), Below w.heap.size w w' → ys.length ≤ c' → (0 < ys.length → a' = some ⟨b, o + 2, none⟩) → WIs U (w'.setCell ⟨U.W0.heap.size, 2, none⟩ (.slice a' ys.length c')) l ys := by
  obtain ⟨hl, ⟨a, c, e1, e2, k, hk, hy, ha⟩, _, hf⟩ := h.cells
  have hak := ha (by simp)
  subst hak
  obtain ⟨p, hA⟩ := h.at_
  obtain ⟨b', o', e, hlt, hc⟩ := hU.links.row (by simp at hk; omega)
  injection e with e
  injection e with e3 e4
  subst e3 e4
  have hkl : k < U.xs.length := by simp at hk; omega
  have htk : U.xs[k]? = some t := by
    have := congrArg List.head? hy
    rw [List.head?_drop] at this
    exact this.symm
  obtain ⟨c0, c1⟩ := hc k hkl
  unfold toA at c0
  unfold wtA at c1
  rw [List.getD_eq_getElem?_getD, htk] at c0 c1
  refine ⟨U.xb, U.xo + k * 2, c, e1, e2, hlt, (hA.bel.cell (p := ⟨_, _, none⟩) hlt).trans c0, (hA.bel.cell (p := ⟨_, _, none⟩) hlt).trans c1, hf, fun w' a' c' hb h1 h2 => ?_⟩
  refine (h.far hb).map fun q hq => ?_
  obtain ⟨v, a0, c0', hbk, hown, hcc, _⟩ := hq.blk
  refine ⟨hq.bel.setCell (p := ⟨U.W0.heap.size, 2, none⟩) (Nat.le_refl _) _, v, a', c', block_set hbk _, own_setBlock hown (Nat.lt_succ_self _) _, h1, k + 1, by simp at hk; omega, ?_, fun h0 => by rw [h2 h0, Nat.succ_mul, Nat.add_assoc]⟩
  have := congrArg List.tail hy
  rw [List.tail_drop] at this
  exact this
theorem lv_pos (op : Int) : 1 ≤ lvF op ∧ lvF op ≤ 8 := by
  unfold lvF
  repeat' split
  all_goals omega
/-- what expression does for a tree -/
def EX (U : Wup) (x : Ex) : Prop := ∀ (lo : Nat) (w : World) (l : Bytes) (ys : List (Int × Int)) (z : Int), z = (lo : Int) → lo ≤ 8 → WIs U w l (x.flat ++ ys) → l.length + 1 + 40 * (x.flat ++ ys).length ≤ 500000 →
  Calls Tryz.prog 41 #[.pointer (some ⟨U.W0.heap.size, 0, none⟩), .int .i64 z] w (Wrote U (l ++ brk (lo + 1) x.lv (x.text U.ns)) ys)
def BR (U : Wup) (x : Ex) : Prop := ∀ (w : World) (l : Bytes) (ys : List (Int × Int)), WIs U w l (x.flat ++ ys) → l.length + 1 + 40 * (x.flat ++ ys).length ≤ 500000 → (x.text U.ns).length ≤ 28 * x.flat.length →
  Calls Tryz.prog 84 #[.pointer (some ⟨U.W0.heap.size, 0, none⟩)] w (Wrote U (l ++ prn (x.text U.ns)) ys)
/-- expression where no brackets are wanted -/
def CO (U : Wup) (x : Ex) : Prop := ∀ (lo : Nat) (w : World) (l : Bytes) (ys : List (Int × Int)) (z : Int), z = (lo : Int) → lo ≤ 8 → ¬ x.lv < lo + 1 → WIs U w l (x.flat ++ ys) → l.length + 40 * (x.flat ++ ys).length ≤ 500000 →
  Calls Tryz.prog 41 #[.pointer (some ⟨U.W0.heap.size, 0, none⟩), .int .i64 z] w (Wrote U (l ++ x.text U.ns) ys)
theorem brk_no {k n : Nat} {T : Bytes} (h : ¬ n < k) : brk k n T = T := by unfold brk; rw [if_neg h]
theorem brk_yes {k n : Nat} {T : Bytes} (h : n < k) : brk k n T = prn T := by unfold brk; rw [if_pos h]
set_option maxHeartbeats 1000000 in
theorem br_of (U : Wup) (x : Ex) (h0 : CO U x) : BR U x := by
  intro w l ys h hl hT
  have HB := Lib.hid (fun w l ys (h : WIs U w l ys) (hl : l.length ≤ 1000000) => wbyte_any U w l ys h hl 40 40 rfl)
  have HB2 := Lib.hid (fun w l ys (h : WIs U w l ys) (hl : l.length ≤ 1000000) => wbyte_any U w l ys h hl 41 41 rfl)
  have HE := Lib.hid (fun W (hW : WIs U W (l ++ [40]) (x.flat ++ ys)) => h0 0 W (l ++ [40]) ys 0 rfl (by omega) (by have := (lv_pos x.top.1).1; unfold Ex.lv; omega) hW (by rw [List.length_append]; simp at hl ⊢; omega))
  have HP := Lib.hid h
  have hlen : l.length ≤ 500000 := by omega
  have hlen2 : (l ++ [40] ++ x.text U.ns).length ≤ 1000000 := by
    simp at hl ⊢
    omega
  have e : l ++ prn (x.text U.ns) = (l ++ [40] ++ x.text U.ns) ++ [41] := by unfold prn; simp
  rw [e]
  have HL := Lib.hid hlen2
  clear h hl hT h0 e hlen2
  unfold Wrote at *
  generalize x.text U.ns = T at *
  generalize x.flat ++ ys = zs at *
  go_enter Tryz.func84, Tryz.ntmps84
  go_wp2_with (first
    | (go_at_call 144; first | ((with_reducible refine (HB.out _ _ _ HP.out (by omega)).mono ?_); rintro e w1 ⟨rfl, h1⟩) | ((with_reducible refine (HB2.out _ _ _ h2 HL.out).mono ?_); rintro e w3 ⟨rfl, h3⟩))
    | (go_at_call 41; refine (HE.out _ h1).mono ?_; rintro e w2 ⟨rfl, h2⟩))
  go_end0
  exact ⟨rfl, h3⟩
end Go.Proofs.YtdbahiepihkagaaGreatDoor
namespace Go.Proofs.YtdbahiepihkagaaGreatDoor
set_option maxRecDepth 100000
open Go.RowKit

/-! ### Rows of cells -/
def putL (o : Nat) (vs R : List Value) : List Value := R.take o ++ vs ++ R.drop (o + vs.length)
theorem putL_len {o : Nat} {vs R : List Value} (h : o + vs.length ≤ R.length) : (putL o vs R).length = R.length := by
  unfold putL
  simp
  omega
theorem parted (a b c : Nat) (R : List Value) (h : a + b + c ≤ R.length) : ∃ A M N Z, R = A ++ (M ++ (N ++ Z)) ∧ A.length = a ∧ M.length = b ∧ N.length = c ∧ A = R.take a ∧ Z = R.drop (a + b + c) := by
  refine ⟨R.take a, (R.drop a).take b, (R.drop (a + b)).take c, R.drop (a + b + c), ?_, by simp; omega, by simp; omega, by simp; omega, rfl, rfl⟩
  rw [← List.drop_drop (i := c) (j := a + b), List.take_append_drop, ← List.drop_drop (i := b) (j := a), List.take_append_drop, List.take_append_drop]
theorem putL_two {a : Nat} {T D R : List Value} (h : a + T.length + D.length ≤ R.length) :
    putL a T (putL (a + T.length) D R) = R.take a ++ (T ++ (D ++ R.drop (a + T.length + D.length))) ∧ putL (a + T.length) D (putL a T R) = R.take a ++ (T ++ (D ++ R.drop (a + T.length + D.length))) := by
  obtain ⟨A, M, N, Z, hR, ha, hb, hc, hA, hZ⟩ := parted a T.length D.length R h
  rw [← hA, ← hZ]
  have e1 : putL (a + T.length) D R = A ++ (M ++ (D ++ Z)) := by
    unfold putL
    have t1 : R.take (a + T.length) = A ++ M := by
      rw [hR, ← List.append_assoc]
      exact List.take_left' (by rw [List.length_append]; omega)
    rw [t1, hZ]
    simp
  have e2 : putL a T R = A ++ (T ++ (N ++ Z)) := by
    unfold putL
    have t1 : R.drop (a + T.length) = N ++ Z := by
      rw [hR, ← List.append_assoc]
      exact List.drop_left' (by rw [List.length_append]; omega)
    rw [← hA, t1]
    simp
  constructor
  · rw [e1]
    unfold putL
    rw [List.take_left' ha, ← List.append_assoc A M, List.drop_left' (by rw [List.length_append]; omega)]
    simp
  · rw [e2]
    unfold putL
    rw [show A ++ (T ++ (N ++ Z)) = (A ++ T) ++ (N ++ Z) by simp, List.take_left' (by rw [List.length_append]; omega), show (A ++ T) ++ (N ++ Z) = (A ++ T ++ N) ++ Z by simp, List.drop_left' (by simp; omega)]
    simp
/-- copy into a part of a row -/
theorem run_copyRow {P : Program} (w : World) (dT sT ty elem : TypeId) (g o dLen dCap : Nat) (a : Addr) (sLen sCap : Nat) (cur : Array Value) (t : TypeId) (cs : List Value)
    (hu : P.underlying dT = some (.slice elem)) (hs : (P.info? elem).map (·.size) = some 2) (hg : w.heap[g]? = some (.cells cur t (0, 0))) (hn : cs.length = Nat.min sLen dLen * 2)
    (hsrc : ∀ j v, cs[j]? = some v → w.cell? (a.add j) = some v) (hfit : o + cs.length ≤ cur.size) (h1 : ∀ v ∈ cs, v.oneCell' = true) :
    (Builtin.copy_ #[dT, sT] ty #[.slice (some ⟨g, o, none⟩) dLen dCap, .slice (some a) sLen sCap]).run P w = .ok (goInt (Nat.min sLen dLen)) (w.setRow g (putL o cs cur.toList).toArray) := by
  have hl := run_loadCells_list (P := P) w a cs hsrc
  have hst := run_storeCells_at P g o t cs 0 cur w hg (by omega) h1
  rw [Nat.add_zero] at hst
  cases hq : P.info? elem with
  | none => simp [hq] at hs
  | some i =>
    have hi : i.size = 2 := by simpa [hq] using hs
    simp [Builtin.copy_, run_underlying hu, Builtin.lenOf, Builtin.firstCells, sizeOf, typeInfo, hq, hi, ← hn, hl, hst, putL]
theorem setRow_size (w : World) (g : Nat) (a : Array Value) : (w.setRow g a).heap.size = w.heap.size := by simp [World.setRow]
theorem setRow_drew (w : World) (g : Nat) (a : Array Value) : (w.setRow g a).drew = w.drew.setRow g a := rfl
section
variable {P : Program} {ops : Array Oper} {o : Oper} {a : Act} {w : World} {K : Act → World → Prop} {Q : Exit → Act → World → Prop} {E : Prop} {rest : List Oper}
theorem wpList_copyI (w : World) (hgd : o.guard = none) (d s : Operand) (t t' : TypeId) (ho : o.op = .call { callee := .builtin .copy, args := #[d, s], argTypes := #[t, t'] }) (v u : Value) (hd : a.eval d = v) (hs : a.eval s = u) {v' : Value} {w' : World}
    (hr : (Builtin.copy_ #[t, t'] o.type #[v, u]).run P w = .ok v' w') (h : wpList P ops Q rest (a.put o.dst v') w') : wpList P ops Q (o :: rest) a w := by
  refine wpList_plain hgd fun K hK => ?_
  unfold Oper.wp execOp
  simp only [ho, resolve, invoke, builtin, Sem.run_bind, Sem.run_pure, Result.andThen_ok, List.map_toArray, List.map_cons, List.map_nil, hd, hs, hr]
  exact hK _ _ h
theorem step_copyI (hgd : o.guard = none) (d x : Operand) (t t' : TypeId) (ho : o.op = .call { callee := .builtin .copy, args := #[d, x], argTypes := #[t, t'] }) (v u : Value) (hd : a.eval d = v) (hx : a.eval x = u) {v' : Value} {w' : World}
    (hr : (Builtin.copy_ #[t, t'] o.type #[v, u]).run P w = .ok v' w') (hK : K (a.put o.dst v') w') : if Region.wanted o (yielded ops a.tmps) = true then Oper.wp P o a w K Q else E := by
  have hw : Region.wanted o (yielded ops a.tmps) = true := by simp [Region.wanted, hgd]
  rw [if_pos hw]
  unfold Oper.wp execOp
  simp only [ho, resolve, invoke, builtin, Sem.run_bind, Sem.run_pure, Result.andThen_ok, List.map_toArray, List.map_cons, List.map_nil, hd, hx, hr]
  exact hK
end
theorem linkVs_part (xs : List (Int × Int)) (i : Nat) : linkVs xs = linkVs (xs.take i) ++ linkVs (xs.drop i) := by rw [← linkVs_append, List.take_append_drop]
theorem cell_row {w : World} {g : Nat} {cs : Array Value} {t : TypeId} {fr : Nat × Nat} (h : w.heap[g]? = some (.cells cs t fr)) (i : Nat) : w.cell? ⟨g, i, none⟩ = cs[i]? := by simp [World.cell?, h]
/-- the new list in its row -/
theorem ins_own {B g n c i : Nat} {w' : World} {xs : List (Int × Int)} (t : Int × Int) (cur : List Value) (hn : n = xs.length) (hi : i < n) (hB : B ≤ g) (hc : n + 1 ≤ c) (hm : c ≤ maxLen) (hl : cur.length = c * 2) (hh : linkVs (xs.take i) = cur.take (i * 2))
    (hw : w'.heap[g]? = some (.cells (cur.take (i * 2) ++ (linkVs [t] ++ (linkVs (xs.drop i) ++ cur.drop (i * 2 + 2 + (n - i) * 2)))).toArray 55 (0, 0))) : OwnT B w' (.slice (some ⟨g, 0, none⟩) (n + 1) c) (xs.take i ++ t :: xs.drop i) := by
  subst hn
  have hlen : (xs.take i ++ t :: xs.drop i).length = xs.length + 1 := by simp; omega
  have hv : linkVs (xs.take i ++ t :: xs.drop i) = linkVs (xs.take i) ++ (linkVs [t] ++ linkVs (xs.drop i)) := by
    rw [show t :: xs.drop i = [t] ++ xs.drop i from rfl, linkVs_append, linkVs_append]
  have hd : (linkVs (xs.drop i)).length = (xs.length - i) * 2 := by rw [linkVs_len, List.length_drop]
  unfold OwnT
  refine ⟨linkVs_len _, .inr ⟨g, c, _, by rw [hlen], hB, hw, by rw [hlen]; exact hc, hm, ?_, ?_⟩⟩
  · simp [hd, linkVs_len]
    omega
  · rw [List.toList_toArray, hlen, hv, hh, show cur.take (i * 2) ++ (linkVs [t] ++ (linkVs (xs.drop i) ++ cur.drop (i * 2 + 2 + (xs.length - i) * 2))) = (cur.take (i * 2) ++ (linkVs [t] ++ linkVs (xs.drop i))) ++ cur.drop (i * 2 + 2 + (xs.length - i) * 2) by simp]
    refine List.take_left' ?_
    simp [hd, linkVs_len]
    omega
theorem sizeTerm (w : World) : (Go.sizeOf 55).run Tryz.prog w = .ok 2 w := by
  obtain ⟨i, hi, _, hz, _⟩ := info_parts infoTerm
  simp [sizeOf, typeInfo, hi, hz]
theorem infoSz : (Tryz.prog.info? 55).map (·.size) = some 2 := by kernel_rfl
set_option maxHeartbeats 4000000 in
/-- there is room -/
theorem insert_room (B g n c i : Nat) (xs : List (Int × Int)) (t : Int × Int) (vb : Nat) (w : World) (h : OwnT B w (.slice (some ⟨g, 0, none⟩) n c) xs) (hn : n = xs.length) (hi : i < n) (hroom : n + 1 ≤ c) (hv : w.heap[vb]? = some (.cells #[.int .i64 t.1, .int .i64 t.2] 55 (0, 0))) (hne : vb ≠ g) :
    Calls Tryz.prog 131 #[.slice (some ⟨g, 0, none⟩) n c, .int .i64 (i : Int), .slice (some ⟨vb, 0, none⟩) 1 1] w fun e w' =>
      e = .returned (.slice (some ⟨g, 0, none⟩) (n + 1) c) ∧ OwnT B w' (.slice (some ⟨g, 0, none⟩) (n + 1) c) (xs.take i ++ t :: xs.drop i) ∧ w.grownBy w' (some g) := by
  obtain ⟨cur, hg, hB, hm, hcs, htk⟩ : ∃ cur, w.heap[g]? = some (.cells cur 55 (0, 0)) ∧ B ≤ g ∧ c ≤ maxLen ∧ cur.size = c * 2 ∧ cur.toList.take (xs.length * 2) = linkVs xs := by
    rcases h.2 with ⟨e, _⟩ | ⟨g', cap, cur, e, h1, h2, _, h3, h4, h5⟩
    · cases e
    · injection e with e1 e2 e3
      injection e1 with e1
      injection e1 with e1
      subst e1 e3
      exact ⟨cur, h2, h1, h3, h4, h5⟩
  have hlen : cur.toList.length = c * 2 := by rw [Array.length_toList]; exact hcs
  have hdl : (linkVs (xs.drop i)).length = (n - i) * 2 := by rw [linkVs_len, List.length_drop, hn]
  have htl : (linkVs [t]).length = 2 := rfl
  have hov : ∀ lb cb, (callFunc 172 #[.slice (some ⟨vb, 0, none⟩) 1 1, .slice (some ⟨g, (i + 1) * 2, none⟩) lb cb]).run Tryz.prog w = .ok (.value (.bool false)) w := fun lb cb => by
    rw [run_callFunc_extern Tryz.func172 (by kernel_rfl) (by kernel_rfl) (by kernel_rfl) (e := Extern.SlicesOverlaps.overlaps #[25, 25] #[4]) (by kernel_rfl),
      Lib.run_overlaps_apart w 25 4 55 Tryz.underlying25 2 sizeTerm ⟨vb, 0, none⟩ ⟨g, (i + 1) * 2, none⟩ 1 1 lb cb hne 55 55 2 cur.size (by simp [World.shape?, hv]) (by simp [World.shape?, hg]) (by omega) (by simp [World.frozen?, hv]) (by simp [World.frozen?, hv])]
    rfl
  have hin : i ≤ n := by omega
  have mn1 : Nat.min (n + 1 - i) (n - i) = n - i := by simp only [Nat.min_def]; split <;> omega
  have mn2 : Nat.min 1 (n + 1 - i) = 1 := by simp only [Nat.min_def]; split <;> omega
  obtain ⟨R1, hR1⟩ : ∃ R1 : List Value, R1 = putL (i * 2 + 2) (linkVs (xs.drop i)) cur.toList := ⟨_, rfl⟩
  have hR1l : R1.length = c * 2 := by rw [hR1, putL_len (by rw [hdl, hlen]; omega), hlen]
  have hsx : ∀ (W : World), W.heap = w.heap → ∀ j v, (linkVs (xs.drop i))[j]? = some v → W.cell? ((⟨g, i * 2, none⟩ : Addr).add j) = some v := fun W hW j v hj => by
    rw [Addr.add_lit]
    have hjl : j < (n - i) * 2 := by rw [← hdl]; exact (List.getElem?_eq_some_iff.1 hj).1
    have e1 : W.cell? ⟨g, i * 2 + j, none⟩ = cur[i * 2 + j]? := cell_row (by rw [hW]; exact hg) _
    rw [e1, ← Array.getElem?_toList]
    have e2 : (cur.toList.take (xs.length * 2))[i * 2 + j]? = cur.toList[i * 2 + j]? := List.getElem?_take_of_lt (by omega)
    rw [← e2, htk, linkVs_part xs i, List.getElem?_append_right (by rw [linkVs_len, List.length_take]; omega), linkVs_len, List.length_take, Nat.min_eq_left (by omega), show i * 2 + j - i * 2 = j by omega]
    exact hj
  have hcp1 : ∀ (W : World), W.heap = w.heap → ∀ ty dc sc, (Builtin.copy_ #[25, 25] ty #[.slice (some ⟨g, (i + 1) * 2, none⟩) (n - i) dc, .slice (some ⟨g, i * 2, none⟩) (n + 1 - i) sc]).run Tryz.prog W = .ok (goInt ((n - i : Nat) : Int)) (W.setRow g R1.toArray) := fun W hW ty dc sc => by
    have := run_copyRow (P := Tryz.prog) W 25 25 ty 55 g ((i + 1) * 2) (n - i) dc ⟨g, i * 2, none⟩ (n + 1 - i) sc cur 55 (linkVs (xs.drop i)) Tryz.underlying25 infoSz (by rw [hW]; exact hg) (by rw [hdl, mn1]) (hsx W hW) (by rw [hdl, hcs]; omega) linkVs_one
    rw [mn1] at this
    rw [this, hR1, Nat.succ_mul]
  have hcp2 : ∀ (W : World), W.heap[g]? = some (.cells R1.toArray 55 (0, 0)) → W.heap[vb]? = w.heap[vb]? → ∀ ty dc, (Builtin.copy_ #[25, 25] ty #[.slice (some ⟨g, i * 2, none⟩) (n + 1 - i) dc, .slice (some ⟨vb, 0, none⟩) 1 1]).run Tryz.prog W = .ok (goInt ((1 : Nat) : Int)) (W.setRow g (putL (i * 2) (linkVs [t]) R1).toArray) := fun W hW hW2 ty dc => by
    have := run_copyRow (P := Tryz.prog) W 25 25 ty 55 g (i * 2) (n + 1 - i) dc ⟨vb, 0, none⟩ 1 1 R1.toArray 55 (linkVs [t]) Tryz.underlying25 infoSz hW (by rw [htl, mn2]) (fun j v hj => by
      rw [Addr.add_lit, Nat.zero_add, cell_row (by rw [hW2]; exact hv)]
      rw [← hj]
      rcases (by have := (List.getElem?_eq_some_iff.1 hj).1; rw [htl] at this; omega : j = 0 ∨ j = 1) with rfl | rfl <;> rfl) (by rw [htl, List.size_toArray, hR1l]; omega) linkVs_one
    rw [mn2, List.toList_toArray] at this
    exact this
  have hfin : ∀ W : World, W.heap[g]? = some (.cells (putL (i * 2) (linkVs [t]) R1).toArray 55 (0, 0)) → OwnT B W (.slice (some ⟨g, 0, none⟩) (n + 1) c) (xs.take i ++ t :: xs.drop i) := fun W hW => by
    refine ins_own t cur.toList hn hi hB hroom hm hlen ?_ ?_
    · have := congrArg (List.take (i * 2)) htk
      rw [List.take_take, Nat.min_eq_left (by omega), linkVs_part xs i, List.take_left' (by rw [linkVs_len, List.length_take]; omega)] at this
      exact this.symm
    · rw [hW, hR1]
      have := (putL_two (a := i * 2) (T := linkVs [t]) (D := linkVs (xs.drop i)) (R := cur.toList) (by rw [htl, hdl, hlen]; omega)).1
      rw [htl] at this
      rw [this, hdl]
  have HCp1 := Lib.hid hcp1
  have HCp2 := Lib.hid hcp2
  have HFin := Lib.hid hfin
  have HG := Lib.hid hg
  have hR1h : ∀ W : World, W.heap = w.heap → (W.setRow g R1.toArray).heap[g]? = some (.cells R1.toArray 55 (0, 0)) := fun W hW => setRow_heap W g cur _ _ _ (by rw [hW]; exact hg)
  have HR1 := Lib.hid hR1h
  have HLt := Lib.hid (show g < w.heap.size from (Array.getElem?_eq_some_iff.1 hg).1)
  have hm' : c ≤ 9223372036854775807 := by unfold maxLen at hm; omega
  clear h hcp1 hcp2 hfin hg hR1h hm hcs htk hlen hdl htl mn1 mn2 hsx hn hR1l hR1
  have mixed : Tryz.prog.follows Departure.mixedOrders = true := by kernel_rfl
  have hz2 : ¬ ((i : Int) = (n : Int)) := by omega
  have hz3 : ((i : Int) == (n : Int)) = false := by simp; omega
  have hz4 : decide ((c : Int) < (n : Int) + 1) = false := by simp; omega
  have hz5 : ¬ ((c : Int) < (n : Int) + 1) := by omega
  have hw1 : IntKind.i64.wrap ((i : Int) + 1) = (i : Int) + 1 := by rw [IntKind.wrap_i64]; omega
  have hb1 : (0 : Int) ≤ (i : Int) + 1 := by omega
  have htn : ((i : Int) + 1).toNat = i + 1 := by omega
  have hb2 : ¬ (c = i + 1) := by omega
  have hb3 : (i : Int) ≤ (n : Int) + 1 := by omega
  have hb4 : ¬ (c = i) := by omega
  go_enter Tryz.func131, Tryz.ntmps131
  go_wp2_with (simp only [hov])
  go_region_law_o (refine step_copyI rfl _ _ 25 25 rfl (.slice (some ⟨g, (i + 1) * 2, none⟩) (n - i) (c - (i + 1))) (.slice (some ⟨g, i * 2, none⟩) (n + 1 - i) (c - i)) (by simp [Act.eval, Act.put]) (by simp [Act.eval, Act.put]) (HCp1.out w.drew rfl 3 (c - (i + 1)) (c - i)) ?_)
  go_wp2_with (refine wpList_copyI _ rfl (.tmp 80) (.tmp 81) 25 25 rfl _ _ rfl rfl (HCp2.out (w.drew.setRow g R1.toArray) (HR1.out w.drew rfl) (setRow_other _ _ _ _ hne) _ _) ?_)
  go_wp2
  go_ret
  refine ⟨rfl, HFin.out _ (setRow_heap _ _ _ _ _ _ (HR1.out w.drew rfl)), rfl, rfl, rfl, by rw [setRow_size, setRow_size]; exact Nat.le_refl _, fun k hk hkg => ?_⟩
  rw [setRow_other _ _ _ _ (fun e => hkg (by rw [e])), setRow_other _ _ _ _ (fun e => hkg (by rw [e]))]
  rfl
set_option maxHeartbeats 4000000 in
/-- there is no room -/
theorem insert_grow (B g n c i : Nat) (xs : List (Int × Int)) (t : Int × Int) (vb : Nat) (w : World) (h : OwnT B w (.slice (some ⟨g, 0, none⟩) n c) xs) (hn : n = xs.length) (hi : i < n) (hroom : c < n + 1) (hn6 : n ≤ 1000000) (hv : w.heap[vb]? = some (.cells #[.int .i64 t.1, .int .i64 t.2] 55 (0, 0))) (hBw : B ≤ w.heap.size) :
    Calls Tryz.prog 131 #[.slice (some ⟨g, 0, none⟩) n c, .int .i64 (i : Int), .slice (some ⟨vb, 0, none⟩) 1 1] w fun e w' =>
      ∃ a' c', e = .returned (.slice a' (n + 1) c') ∧ OwnT B w' (.slice a' (n + 1) c') (xs.take i ++ t :: xs.drop i) ∧ Below w.heap.size w w' := by
  obtain ⟨cur, hg, hnc, hcs, htk⟩ : ∃ cur, w.heap[g]? = some (.cells cur 55 (0, 0)) ∧ n ≤ c ∧ cur.size = c * 2 ∧ cur.toList.take (xs.length * 2) = linkVs xs := by
    rcases h.2 with ⟨e, _⟩ | ⟨g', cap, cur, e, h1, h2, h6, h3, h4, h5⟩
    · cases e
    · injection e with e1 e2 e3
      injection e1 with e1
      injection e1 with e1
      subst e1 e3
      exact ⟨cur, h2, by omega, h4, h5⟩
  have hdl : (linkVs (xs.drop i)).length = (n - i) * 2 := by rw [linkVs_len, List.length_drop, hn]
  have htl : (linkVs [t]).length = 2 := rfl
  have hgl : g < w.heap.size := (Array.getElem?_eq_some_iff.1 hg).1
  have hvl : vb < w.heap.size := (Array.getElem?_eq_some_iff.1 hv).1
  have hcell : ∀ (W : World), W.heap[g]? = w.heap[g]? → ∀ j, j < n * 2 → W.cell? ⟨g, j, none⟩ = (linkVs xs)[j]? := fun W hW j hj => by
    rw [cell_row (by rw [hW]; exact hg), ← Array.getElem?_toList]
    have e2 : (cur.toList.take (xs.length * 2))[j]? = cur.toList[j]? := List.getElem?_take_of_lt (by omega)
    rw [← e2, htk]
  obtain ⟨i0, hi0, hz0, hz1, hz2⟩ := info_parts infoTerm
  obtain ⟨G, hG⟩ : ∃ G, G = grownCap w (n + 1) c 55 := ⟨_, rfl⟩
  have hGn : n + 1 ≤ G := by rw [hG]; exact grownCap_ge w _ _ _
  have hGm : G ≤ maxLen := by rw [hG]; exact grownCap_le_maxLen w _ _ _ (by unfold maxLen; omega)
  have hG63 : G ≤ 9223372036854775807 := by unfold maxLen at hGm; omega
  obtain ⟨ROW, hROW⟩ : ∃ ROW : Array Value, ROW = ((linkVs (xs.take i)).toArray ++ Builtin.zeroCells (Value.agg #[.int .i64 0, .int .i64 0]).cells (n + 1 - i) ++ Builtin.zeroCells (Value.agg #[.int .i64 0, .int .i64 0]).cells (G - (n + 1))) := ⟨_, rfl⟩
  have hzs : ∀ k, (Builtin.zeroCells (Value.agg #[.int .i64 0, .int .i64 0]).cells k).size = k * 2 := fun k => by
    simp [Builtin.zeroCells, Value.cells]
  have hROWl : ROW.toList.length = G * 2 := by
    rw [Array.length_toList, hROW, Array.size_append, Array.size_append, hzs, hzs, List.size_toArray, linkVs_len, List.length_take, Nat.min_eq_left (by omega)]
    omega
  have hROWt : ROW.toList.take (i * 2) = linkVs (xs.take i) := by
    rw [hROW, Array.toList_append, Array.toList_append, List.append_assoc]
    exact List.take_left' (by rw [linkVs_len, List.length_take]; omega)
  have hik : i + (n + 1 - i) = n + 1 := by omega
  have hold : (Builtin.firstCells i0.size i (.slice (some ⟨g, 0, none⟩) i c)).run Tryz.prog w.drew = .ok (linkVs (xs.take i)).toArray w.drew := by
    rw [hz1]
    have := run_firstCells_some (P := Tryz.prog) w.drew 2 i ⟨g, 0, none⟩ i c (linkVs (xs.take i)) (by rw [linkVs_len, List.length_take]; omega) (fun j v hj => by
      rw [Addr.add_lit, Nat.zero_add]
      show w.cell? ⟨g, j, none⟩ = some v
      have hjl : j < i * 2 := by have := (List.getElem?_eq_some_iff.1 hj).1; rw [linkVs_len, List.length_take] at this; omega
      rw [hcell _ rfl j (by omega), linkVs_part xs i, List.getElem?_append_left (by rw [linkVs_len, List.length_take]; omega)]
      exact hj)
    exact this
  have hrz : ∀ ty, (Builtin.append_ #[25, 3] ty #[.slice (some ⟨g, 0, none⟩) i c, .int .i64 ((n : Int) + 1 - (i : Int))]).run Tryz.prog w =
      .ok (.slice (some ⟨w.heap.size, 0, none⟩) (n + 1) G) (w.drew.alloc (.cells ROW 55)) := fun ty => by
    have h := Lib.run_append_grow_zeros (P := Tryz.prog) w 25 3 ty 55 i0 _ .i64 .i64 Tryz.underlying25 Tryz.underlying3 hi0 hz0 (some ⟨g, 0, none⟩) i c (linkVs (xs.take i)) hold (n + 1 - i) (by omega) (by omega) (by omega) (by omega) (by rw [hz2]; omega) (by rw [hz2, hik]; exact growslice_fits hroom (by omega))
    rw [hik, ← hG] at h
    rw [hROW, show (n : Int) + 1 - (i : Int) = ((n + 1 - i : Nat) : Int) by omega]
    exact h
  have mn1 : Nat.min (n - i) (n - i) = n - i := by simp only [Nat.min_def]; split <;> omega
  have mn2 : Nat.min 1 (n + 1 - i) = 1 := by simp only [Nat.min_def]; split <;> omega
  obtain ⟨R1, hR1⟩ : ∃ R1 : List Value, R1 = putL (i * 2) (linkVs [t]) ROW.toList := ⟨_, rfl⟩
  have hR1l : R1.length = G * 2 := by rw [hR1, putL_len (by rw [htl, hROWl]; omega), hROWl]
  have hcpA : ∀ (W : World), W.heap[w.heap.size]? = some (.cells ROW 55 (0, 0)) → W.heap[vb]? = w.heap[vb]? → ∀ ty dc, (Builtin.copy_ #[25, 25] ty #[.slice (some ⟨w.heap.size, i * 2, none⟩) (n + 1 - i) dc, .slice (some ⟨vb, 0, none⟩) 1 1]).run Tryz.prog W = .ok (goInt ((1 : Nat) : Int)) (W.setRow w.heap.size R1.toArray) := fun W hW hW2 ty dc => by
    have := run_copyRow (P := Tryz.prog) W 25 25 ty 55 w.heap.size (i * 2) (n + 1 - i) dc ⟨vb, 0, none⟩ 1 1 ROW 55 (linkVs [t]) Tryz.underlying25 infoSz hW (by rw [htl, mn2]) (fun j v hj => by
      rw [Addr.add_lit, Nat.zero_add, cell_row (by rw [hW2]; exact hv)]
      rw [← hj]
      rcases (by have := (List.getElem?_eq_some_iff.1 hj).1; rw [htl] at this; omega : j = 0 ∨ j = 1) with rfl | rfl <;> rfl) (by rw [htl, ← Array.length_toList, hROWl]; omega) linkVs_one
    rw [mn2, ← hR1] at this
    exact this
  have hcpB : ∀ (W : World), W.heap[w.heap.size]? = some (.cells R1.toArray 55 (0, 0)) → W.heap[g]? = w.heap[g]? → ∀ ty dc sc, (Builtin.copy_ #[25, 25] ty #[.slice (some ⟨w.heap.size, (i + 1) * 2, none⟩) (n - i) dc, .slice (some ⟨g, i * 2, none⟩) (n - i) sc]).run Tryz.prog W = .ok (goInt ((n - i : Nat) : Int)) (W.setRow w.heap.size (putL (i * 2 + 2) (linkVs (xs.drop i)) R1).toArray) := fun W hW hW2 ty dc sc => by
    have := run_copyRow (P := Tryz.prog) W 25 25 ty 55 w.heap.size ((i + 1) * 2) (n - i) dc ⟨g, i * 2, none⟩ (n - i) sc R1.toArray 55 (linkVs (xs.drop i)) Tryz.underlying25 infoSz hW (by rw [hdl, mn1]) (fun j v hj => by
      rw [Addr.add_lit]
      have hjl : j < (n - i) * 2 := by rw [← hdl]; exact (List.getElem?_eq_some_iff.1 hj).1
      rw [hcell W hW2 _ (by omega), linkVs_part xs i, List.getElem?_append_right (by rw [linkVs_len, List.length_take]; omega), linkVs_len, List.length_take, Nat.min_eq_left (by omega), show i * 2 + j - i * 2 = j by omega]
      exact hj) (by rw [hdl, List.size_toArray, hR1l]; omega) linkVs_one
    rw [mn1, List.toList_toArray] at this
    rw [this, Nat.succ_mul]
  have hfin : ∀ W : World, W.heap[w.heap.size]? = some (.cells (putL (i * 2 + 2) (linkVs (xs.drop i)) R1).toArray 55 (0, 0)) → OwnT B W (.slice (some ⟨w.heap.size, 0, none⟩) (n + 1) G) (xs.take i ++ t :: xs.drop i) := fun W hW => by
    refine ins_own t ROW.toList hn hi hBw hGn hGm hROWl hROWt.symm ?_
    rw [hW, hR1]
    have := (putL_two (a := i * 2) (T := linkVs [t]) (D := linkVs (xs.drop i)) (R := ROW.toList) (by rw [htl, hdl, hROWl]; omega)).2
    rw [htl] at this
    rw [this, hdl]
  have HFin := Lib.hid hfin
  have hnew : ∀ (W : World), W.heap = (w.alloc (.cells ROW 55)).heap → W.heap[w.heap.size]? = some (.cells ROW 55 (0, 0)) ∧ W.heap[vb]? = w.heap[vb]? ∧ W.heap[g]? = w.heap[g]? := fun W hW => by
    rw [hW]
    exact ⟨heap_alloc_new w _, (by first | exact heap_alloc_old w _ hvl | exact heap_alloc_old w _ _ hvl), (by first | exact heap_alloc_old w _ hgl | exact heap_alloc_old w _ _ hgl)⟩
  have HNew := Lib.hid hnew
  have HA := Lib.hid (fun (W : World) (hW : W.heap = (w.alloc (.cells ROW 55)).heap) => hcpA W (hnew W hW).1 (hnew W hW).2.1)
  have HB := Lib.hid (fun (W W' : World) (hW : W.heap = (w.alloc (.cells ROW 55)).heap) (hW' : W'.heap = (W.setRow w.heap.size R1.toArray).heap) => hcpB W' (by rw [hW']; exact setRow_heap _ _ _ _ _ _ (hnew W hW).1) (by rw [hW', setRow_other _ _ _ _ (by omega)]; exact (hnew W hW).2.2))
  have HRz := Lib.hid hrz
  clear h hcpA hcpB hfin hnew hrz hold hg hcs htk hdl htl mn1 mn2 hn hR1l hcell hROWl hROWt hzs hGm hG hROW hR1
  have mixed : Tryz.prog.follows Departure.mixedOrders = true := by kernel_rfl
  have hx2 : ¬ ((i : Int) = (n : Int)) := by omega
  have hx3 : ((i : Int) == (n : Int)) = false := by simp; omega
  have hx5 : (c : Int) < (n : Int) + 1 := by omega
  have hw1 : IntKind.i64.wrap ((i : Int) + 1) = (i : Int) + 1 := by rw [IntKind.wrap_i64]; omega
  have hb1 : (0 : Int) ≤ (i : Int) + 1 := by omega
  have htn : ((i : Int) + 1).toNat = i + 1 := by omega
  have hin : i ≤ n := by omega
  have hGi : ¬ (G = i) := by omega
  have hGim : ¬ (G = i + 1) := by omega
  have hci : ¬ (c = i) := by omega
  have hb3 : (i : Int) ≤ (n : Int) := by omega
  have hb5 : (i : Int) ≤ (c : Int) := by omega
  go_enter Tryz.func131, Tryz.ntmps131
  go_wp2_with (first
    | (at_builtin; refine Lib.wpList_append_run _ rfl _ _ _ _ rfl _ _ rfl rfl _ _ (HRz.out _) ?_)
    | (refine wpList_copyI _ rfl (.tmp 43) (.tmp 44) 25 25 rfl _ _ rfl rfl (HA.out (w.alloc (.cells ROW 55)).drew rfl _ _) ?_))
  go_simp
  go_region_law_o (refine step_copyI rfl _ _ 25 25 rfl (.slice (some ⟨w.heap.size, (i + 1) * 2, none⟩) (n - i) (G - (i + 1))) (.slice (some ⟨g, i * 2, none⟩) (n - i) (c - i)) (by simp [Act.eval, Act.put]) (by simp [Act.eval, Act.put]) (HB.out (w.alloc (.cells ROW 55)).drew ((w.alloc (.cells ROW 55)).drew.setRow w.heap.size R1.toArray).drew rfl rfl 3 (G - (i + 1)) (c - i)) ?_)
  go_wp2
  go_ret
  refine ⟨_, _, rfl, HFin.out _ (setRow_heap _ _ _ _ _ _ (setRow_heap (w.alloc (.cells ROW 55)).drew w.heap.size ROW R1.toArray _ _ (HNew.out (w.alloc (.cells ROW 55)).drew rfl).1)), rfl, rfl, rfl, by
    rw [setRow_size]
    show w.heap.size ≤ ((w.alloc (.cells ROW 55)).drew.setRow w.heap.size R1.toArray).heap.size
    rw [setRow_size]
    show w.heap.size ≤ (w.alloc (.cells ROW 55)).heap.size
    simp, fun k hk => ?_⟩
  rw [setRow_other _ _ _ _ (by omega)]
  show ((w.alloc (.cells ROW 55)).drew.setRow w.heap.size R1.toArray).heap[k]? = _
  rw [setRow_other _ _ _ _ (by omega)]
  first | exact heap_alloc_old w _ hk | exact heap_alloc_old w _ _ hk
theorem insert_any (B i : Nat) (v : Value) (xs : List (Int × Int)) (t : Int × Int) (vb : Nat) (w : World) (h : OwnT B w v xs) (hi : i < xs.length) (hn6 : xs.length ≤ 1000000) (hv : w.heap[vb]? = some (.cells #[.int .i64 t.1, .int .i64 t.2] 55 (0, 0))) (hne : some vb ≠ v.ownBlock) (hBw : B ≤ w.heap.size) :
    Calls Tryz.prog 131 #[v, .int .i64 (i : Int), .slice (some ⟨vb, 0, none⟩) 1 1] w fun e w' =>
      ∃ v', e = .returned v' ∧ OwnT B w' v' (xs.take i ++ t :: xs.drop i) ∧ w.grownBy w' v.ownBlock := by
  obtain ⟨a, c, rfl, _, hg⟩ := h.shape
  obtain ⟨g, rfl, _, _⟩ := hg (by omega)
  rcases Nat.lt_or_ge c (xs.length + 1) with hc | hc
  · refine (insert_grow B g xs.length c i xs t vb w h rfl hi hc hn6 hv hBw).mono ?_
    rintro e w' ⟨a', c', rfl, ho, hb⟩
    exact ⟨_, rfl, ho, grown_below hb _⟩
  · refine (insert_room B g xs.length c i xs t vb w h rfl hi hc hv (fun e => hne (by rw [e]; rfl))).mono ?_
    rintro e w' ⟨rfl, ho, hb⟩
    exact ⟨_, rfl, ho, hb⟩
end Go.Proofs.YtdbahiepihkagaaGreatDoor
namespace Go.Proofs.YtdbahiepihkagaaGreatDoor
set_option maxRecDepth 100000
open Go.RowKit

theorem RAt.cells2 {U : Sup} {w w2 : World} {s : St} {xs : List (Int × Int)} (h : RAt U w s xs) {v : Value} (ho : OwnT U.W.heap.size w v xs) (hg : w.grownBy w2 v.ownBlock) (i : Nat) :
    w2.cell? ⟨U.W0.heap.size, i, none⟩ = w.cell? ⟨U.W0.heap.size, i, none⟩ ∧ w2.frozen? ⟨U.W0.heap.size, i, none⟩ = w.frozen? ⟨U.W0.heap.size, i, none⟩ := by
  have hbk : w2.heap[U.W0.heap.size]? = w.heap[U.W0.heap.size]? := hg.block _ h.lt (own_block_ne ho h.up)
  exact ⟨World.cell?_of_block hbk, World.frozen?_of_block hbk⟩
set_option maxHeartbeats 2000000 in
theorem takeQ_any (U : Sup) (hU : U.Ok) (s : St) (xs : List (Int × Int)) (w : World) (h : RAt U w s xs) (hi : s.i < U.ts.length) (hx : xs.length ≤ 100000) (op arg : Int) :
    Calls Tryz.prog 171 #[.pointer (some ⟨U.W0.heap.size, 0, none⟩), .int .i64 op, .int .i64 arg] w fun e w' => e = .returned (.tuple #[]) ∧ RAt U w' s.adv (xs ++ [(op, arg)]) := by
  obtain ⟨v, d1, d2⟩ := h.c3
  obtain ⟨va, vc, rfl, _, _⟩ := d2.shape
  have hup := h.up
  have hl := h.lt
  have hsz := h.grow.size
  have hf3 := h.f3
  obtain ⟨m, hm⟩ : ∃ m, m = xs.length := ⟨_, rfl⟩
  rw [← hm] at d1 d2 hx
  have hlit := OwnT.lit w w.heap.size [(op, arg)] #[.int .i64 op, .int .i64 arg] 1 rfl rfl (Nat.le_refl _) (by simp [maxLen])
  have HLit := Lib.hid hlit
  have HM := Lib.hid hm
  have hba := below_alloc6 w (.cells #[.int .i64 op, .int .i64 arg] 55)
  have HO := Lib.hid (d2.far hba)
  have HF := Lib.hid (fun (w2 : World) (v2 : Value) (hg : (w.alloc (.cells #[.int .i64 op, .int .i64 arg] 55)).grownBy w2 (Value.slice va m vc).ownBlock) (h2 : OwnT U.W.heap.size w2 v2 (xs ++ [(op, arg)])) =>
    (h.far hba).put3 ((hba.cell (p := ⟨_, 3, none⟩) hl).trans d1) (d2.far hba) hg h2)
  have HC := Lib.hid (fun (w2 : World) (hg : (w.alloc (.cells #[.int .i64 op, .int .i64 arg] 55)).grownBy w2 (Value.slice va m vc).ownBlock) => (h.far hba).cells2 (d2.far hba) hg 3)
  have HC3 := Lib.hid (show _ = _ from (hba.cell (p := ⟨U.W0.heap.size, 3, none⟩) hl).trans d1)
  have HF3 := Lib.hid (show _ = _ from (hba.frozen (p := ⟨U.W0.heap.size, 3, none⟩) hl).trans hf3)
  have HSk := Lib.hid (fun (w2 : World) (k : RAt U w2 s (xs ++ [(op, arg)])) => skipQ_any U hU s _ w2 k hi)
  have HB : Hid (U.W.heap.size ≤ (w.alloc (.cells #[.int .i64 op, .int .i64 arg] 55)).heap.size) := Lib.hid (by simp; omega)
  unfold tokA6 at HSk
  clear h hU d2 hba hlit hm hi
  generalize hpb : U.W0.heap.size = pb at *
  have hne : pb ≠ w.heap.size := by omega
  clear hsz hup
  go_enter Tryz.func171, Tryz.ntmps171
  go_wp2_with (first | (at_builtin; refine wpList_appO rfl (.tmp 10) (.tmp 14) rfl U.W.heap.size w.heap.size _ _ xs [(op, arg)] HO.out HLit.out m 1 HM.out rfl rfl rfl (by omega) HB.out ?_; intro a' c' w2 hown2 hg2; have k3 := (HC.out w2 hg2).1.trans HC3.out; have g3 := (HC.out w2 hg2).2.trans HF3.out; have R2 := HF.out w2 _ hg2 hown2; clear hown2 hg2) | (go_at_call 132; refine (HSk.out _ R2).mono ?_; rintro e w3 ⟨rfl, R3⟩))
  go_end0
  exact ⟨rfl, R3⟩
set_option maxHeartbeats 2000000 in
theorem aheadQ_any (U : Sup) (hU : U.Ok) (s : St) (xs : List (Int × Int)) (w : World) (h : RAt U w s xs) (hi : s.i < U.ts.length) (hx : xs.length ≤ 100000) (p : Nat) (hp : p < xs.length) (op : Int) :
    Calls Tryz.prog 65 #[.pointer (some ⟨U.W0.heap.size, 0, none⟩), .int .i64 (p : Int), .int .i64 op] w fun e w' => e = .returned (.tuple #[]) ∧ RAt U w' s.adv (xs.take p ++ (op, 0) :: xs.drop p) := by
  obtain ⟨v, d1, d2⟩ := h.c3
  have hup := h.up
  have hl := h.lt
  have hf3 := h.f3
  have hsz := h.grow.size
  have hba := below_alloc6 w (.cells #[.int .i64 op, .int .i64 0] 55)
  have hlt := World.ownsRow.lt d2
  have HIns := Lib.hid (insert_any U.W.heap.size p v xs (op, 0) w.heap.size (w.alloc (.cells #[.int .i64 op, .int .i64 0] 55)) (d2.far hba) hp (by omega) (heap_alloc_new w _) (fun e => by have := (hlt _ e.symm).2; omega) (by simp; omega))
  have HF := Lib.hid (fun (w2 : World) (v2 : Value) (hg : (w.alloc (.cells #[.int .i64 op, .int .i64 0] 55)).grownBy w2 v.ownBlock) (h2 : OwnT U.W.heap.size w2 v2 (xs.take p ++ (op, 0) :: xs.drop p)) =>
    (h.far hba).put3 ((hba.cell (p := ⟨_, 3, none⟩) hl).trans d1) (d2.far hba) hg h2)
  have HC := Lib.hid (fun (w2 : World) (hg : (w.alloc (.cells #[.int .i64 op, .int .i64 0] 55)).grownBy w2 v.ownBlock) => (h.far hba).cells2 (d2.far hba) hg 3)
  have HC3 := Lib.hid (show _ = _ from (hba.cell (p := ⟨U.W0.heap.size, 3, none⟩) hl).trans d1)
  have HF3 := Lib.hid (show _ = _ from (hba.frozen (p := ⟨U.W0.heap.size, 3, none⟩) hl).trans hf3)
  have HSk := Lib.hid (fun (w2 : World) (k : RAt U w2 s (xs.take p ++ (op, 0) :: xs.drop p)) => skipQ_any U hU s _ w2 k hi)
  unfold tokA6 at HSk
  clear h hU d2 hba hi hlt
  generalize xs.take p ++ (op, 0) :: xs.drop p = ys at *
  generalize hpb : U.W0.heap.size = pb at *
  have hne : pb ≠ w.heap.size := by omega
  clear hsz hup
  go_enter Tryz.func65, Tryz.ntmps65
  go_wp2_with (first | (go_at_call 131; refine HIns.out.mono ?_; rintro e w2 ⟨v2, rfl, hown2, hg2⟩; obtain ⟨a2, c2, rfl, _, _⟩ := hown2.shape; have k3 := (HC.out w2 hg2).1.trans HC3.out; have g3 := (HC.out w2 hg2).2.trans HF3.out; have R2 := HF.out w2 _ hg2 hown2; clear hown2 hg2) | (go_at_call 132; refine (HSk.out _ R2).mono ?_; rintro e w3 ⟨rfl, R3⟩))
  go_end0
  exact ⟨rfl, R3⟩

/-! ### Outcomes -/
/-- a panic with the error of a state -/
def Bad6 (U : Sup) (s : St) (e : Ending) (w' : World) : Prop :=
  e = .panicked [{ v := .iface 101 (.agg #[.int .i64 (s.place : Int), .int .i64 (s.err : Int)]), recovered := false }] ∧ U.W.grownBy w' (some U.W0.heap.size) ∧ Below U.W0.heap.size U.W0 w'
def Good6 (U : Sup) (s : St) (xs : List (Int × Int)) (e : Ending) (w' : World) : Prop := e = .returned (.tuple #[]) ∧ RAt U w' s xs
theorem RAt.bad {U : Sup} {w w' : World} {s : St} {xs : List (Int × Int)} (h : RAt U w s xs) (hb : Below w.heap.size w w') : U.W.grownBy w' (some U.W0.heap.size) ∧ Below U.W0.heap.size U.W0 w' := ⟨(h.far hb).grow, (h.far hb).bel⟩
theorem fail_bad6 (U : Sup) (hU : U.Ok) (s : St) (xs : List (Int × Int)) (w : World) (h : RAt U w s xs) (e0 : Nat) :
    Calls Tryz.prog 62 #[.pointer (some ⟨U.W0.heap.size, 0, none⟩), .int .i64 (e0 : Int)] w (Bad6 U (U.env.fail s e0)) := by
  refine (failQ_any U hU s xs w h e0).mono ?_
  rintro e w' ⟨rfl, hb⟩
  rw [fail_good h.good]
  exact ⟨rfl, h.bad hb⟩
set_option maxHeartbeats 1000000 in
theorem expectQ_yes (U : Sup) (hU : U.Ok) (s : St) (xs : List (Int × Int)) (w : World) (h : RAt U w s xs) (x : Bytes) (h0 : x ≠ []) (hx : U.env.word s = x) :
    Calls Tryz.prog 66 #[.pointer (some ⟨U.W0.heap.size, 0, none⟩), .string (mkS x)] w (Good6 U s.adv xs) := by
  have HA := Lib.hid (acceptQ_yes U hU s xs w h x h0 hx)
  clear h hU hx h0
  unfold Good6
  generalize mkS x = X at *
  go_enter Tryz.func66, Tryz.ntmps66
  go_wp2_with (go_at_call 133; refine HA.out.mono ?_; rintro e w1 ⟨rfl, h1⟩)
  go_end0
  exact ⟨rfl, h1⟩
set_option maxHeartbeats 1000000 in
theorem expectQ_no (U : Sup) (hU : U.Ok) (s : St) (xs : List (Int × Int)) (w : World) (h : RAt U w s xs) (x : Bytes) (hx : U.env.word s ≠ x) :
    Calls Tryz.prog 66 #[.pointer (some ⟨U.W0.heap.size, 0, none⟩), .string (mkS x)] w (Bad6 U (U.env.fail s 4)) := by
  have HA := Lib.hid (acceptQ_no U hU s xs w h x hx)
  have HF := Lib.hid (fun W (hb : Below w.heap.size w W) => fail_bad6 U hU s xs W (h.far hb) 4)
  clear h hU hx
  generalize mkS x = X at *
  generalize U.env.fail s 4 = s4 at *
  unfold Bad6 at *
  go_enter Tryz.func66, Tryz.ntmps66
  go_wp2_with (first | (go_at_call 133; refine HA.out.mono ?_; rintro e w1 ⟨rfl, h1⟩) | (go_at_call 62; refine (HF.out _ h1).mono ?_; rintro e w2 ⟨rfl, h2⟩))
  exact ⟨rfl, rfl, h2⟩
/-- expect, whatever comes -/
theorem expectQ_any (U : Sup) (hU : U.Ok) (s : St) (xs : List (Int × Int)) (w : World) (h : RAt U w s xs) (x : UInt8) (X : ByteArray) (hX : mkS [x] = X) :
    Calls Tryz.prog 66 #[.pointer (some ⟨U.W0.heap.size, 0, none⟩), .string X] w (if (U.env.want [x] s).err = 0 then Good6 U (U.env.want [x] s) xs else Bad6 U (U.env.want [x] s)) := by
  subst hX
  by_cases hx : U.env.word s = [x]
  · have e : U.env.want [x] s = s.adv := by unfold Env.want; rw [if_pos hx]
    rw [e, if_pos (show s.adv.err = 0 from h.good)]
    exact expectQ_yes U hU s xs w h [x] (by simp) hx
  · have e : U.env.want [x] s = U.env.fail s 4 := by unfold Env.want; rw [if_neg hx]
    rw [e, if_neg (fail_err _ _ (by decide))]
    exact expectQ_no U hU s xs w h [x] hx
end Go.Proofs.YtdbahiepihkagaaGreatDoor
