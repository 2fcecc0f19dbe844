/- Append of a list of terms to a list of one's own; a part of a list. -/
import Derived.Test.YtckofngclgkajaaTermR6
import Derived.Test.YtckofngclgkajaaTypMath
namespace Go.Proofs.Ytckofngclgkajaa
set_option maxRecDepth 100000
open Go.RowKit

def linkVs (ps : List (Int × Int)) : List Value := ps.flatMap fun p => [.int .i64 p.1, .int .i64 p.2]
theorem linkVs_len : ∀ ps : List (Int × Int), (linkVs ps).length = ps.length * 2
  | [] => rfl
  | p :: ps => by
    have := linkVs_len ps
    unfold linkVs at this ⊢
    simp [List.flatMap_cons, this]
    omega
theorem linkVs_snoc (ps : List (Int × Int)) (p : Int × Int) : linkVs (ps ++ [p]) = linkVs ps ++ [.int .i64 p.1, .int .i64 p.2] := by simp [linkVs]
theorem linkVs_at : ∀ {ps : List (Int × Int)} {i : Nat}, i < ps.length → (linkVs ps)[i * 2]? = some (.int .i64 (toA ps i)) ∧ (linkVs ps)[i * 2 + 1]? = some (.int .i64 (wtA ps i))
  | p :: ps, 0, _ => ⟨rfl, rfl⟩
  | p :: ps, i + 1, h => by
    have ih := linkVs_at (ps := ps) (i := i) (by simpa using h)
    have e : linkVs (p :: ps) = .int .i64 p.1 :: .int .i64 p.2 :: linkVs ps := rfl
    rw [e, show (i + 1) * 2 = i * 2 + 1 + 1 by omega]
    simp only [List.getElem?_cons_succ]
    simpa [toA, wtA] using ih
section
variable {P : Program} {w : World}
theorem run_copy_none (t ty e : TypeId) (i : TypeInfo) (ht : P.underlying t = some (.slice e)) (hi : P.info? e = some i) (c : Nat) :
    (Builtin.append_ #[t, t] ty #[.slice none 0 0, .slice none 0 c]).run P w = .ok (.slice none 0 0) w := by
  simp [Builtin.append_, run_underlying ht, sizeOf, typeInfo, hi, Builtin.lenOf, Builtin.firstCells]
theorem run_copy (t ty e : TypeId) (i : TypeInfo) (z : Value) (size bytes : Nat) (ht : P.underlying t = some (.slice e)) (hi : P.info? e = some i) (hz : i.zero = some z) (hsize : i.size = size) (hby : i.bytes = bytes) (hzs : z.cells.size = size) (hsz : 0 < size)
    (a : Option Addr) (m c : Nat) (news : List Value) (hl : news.length = m * size) (hnews : ∀ ad, a = some ad → ∀ j u, news[j]? = some u → w.cell? (ad.add j) = some u) (hn : a = none → m = 0) (h1 : ∀ u ∈ news, u.oneCell' = true) (h63 : m ≤ 1000000) (hb : bytes ≤ 100) :
    ∃ v' w', (Builtin.append_ #[t, t] ty #[.slice none 0 0, .slice a m c]).run P w = .ok v' w' ∧ w'.ownsRow w.heap.size e size v' m news ∧ Below w.heap.size w w' := by
  cases a with
  | none =>
    have hm := hn rfl
    subst hm
    have : news = [] := List.eq_nil_of_length_eq_zero (by simpa using hl)
    subst this
    exact ⟨_, _, run_copy_none t ty e i ht hi c, World.ownsRow_nil _ _ _ _, Below.refl _ _⟩
  | some ad =>
    have hbb : m * bytes ≤ 1000000 * 100 := Nat.mul_le_mul h63 hb
    obtain ⟨v', w', hr, h2, h3, _⟩ := run_append_own (P := P) w w.heap.size t ty e i z size bytes ht hi hz hsize hby hzs hsz (.slice none 0 0) 0 [] (World.ownsRow_nil _ _ _ _) ad m c news hl (hnews ad rfl) h1 (by unfold maxLen; omega) (by rw [Nat.zero_add]; omega) (Nat.le_refl _)
    rw [Nat.zero_add, List.nil_append] at h2
    exact ⟨v', w', hr, h2, ⟨h3.os, h3.tape, h3.output, h3.size, fun k hk => h3.block k hk (by simp [Value.ownBlock])⟩⟩
end

theorem infoTerm : (Try.prog.info? 38).map (fun i => (i.zero, i.size, i.bytes)) = some (some (.agg #[.int .i64 0, .int .i64 0]), 2, 16) := by kernel_rfl
section
variable {ops : Array Oper} {o : Oper} {a : Act} {w W : World} {K : Act → World → Prop} {Q : Exit → Act → World → Prop} {E : Prop} {rest : List Oper}
theorem links_cells {b off : Nat} {xs : List (Int × Int)} (h : LinksAt w (some ⟨b, off, none⟩) xs) : ∀ j u, (linkVs xs)[j]? = some u → w.cell? ((⟨b, off, none⟩ : Addr).add j) = some u := by
  intro j u hj
  have hlt : j < xs.length * 2 := by
    rw [← linkVs_len]
    exact (List.getElem?_eq_some_iff.1 hj).1
  obtain ⟨b', o', e, _, hc⟩ := h.row (by omega)
  injection e with e
  injection e with e1 e2
  subst e1 e2
  have hi : j / 2 < xs.length := by omega
  obtain ⟨c0, c1⟩ := hc (j / 2) hi
  obtain ⟨l0, l1⟩ := linkVs_at hi
  rw [add_none]
  rcases Nat.mod_two_eq_zero_or_one j with h2 | h2
  · have e : j / 2 * 2 = j := by omega
    rw [e] at c0 l0
    rw [hj] at l0
    rw [c0, ← l0]
  · have e : j / 2 * 2 + 1 = j := by omega
    rw [Nat.add_assoc, e] at c1
    rw [e] at l1
    rw [hj] at l1
    rw [c1, ← l1]
theorem linkVs_one {xs : List (Int × Int)} : ∀ u ∈ linkVs xs, u.oneCell' = true := by
  intro u hu
  obtain ⟨p, _, hp⟩ := List.mem_flatMap.1 hu
  simp at hp
  rcases hp with rfl | rfl <;> rfl
/-- a list of terms of one's own -/
def OwnT (B : Nat) (w : World) (v : Value) (xs : List (Int × Int)) : Prop := w.ownsRow B 38 2 v xs.length (linkVs xs)
theorem OwnT.shape {B : Nat} {v : Value} {xs : List (Int × Int)} (h : OwnT B w v xs) : ∃ a c, v = .slice a xs.length c ∧ xs.length ≤ maxLen ∧ (0 < xs.length → ∃ g, a = some ⟨g, 0, none⟩ ∧ B ≤ g ∧ g < w.heap.size) := by
  have hlt := World.ownsRow.lt h
  rcases h.2 with ⟨rfl, h0⟩ | ⟨g, cap, cur, rfl, _, hg, h1, h2, _⟩
  · rw [h0]
    exact ⟨none, 0, rfl, by unfold maxLen; omega, fun h => absurd h (by omega)⟩
  · exact ⟨some ⟨g, 0, none⟩, cap, rfl, by omega, fun _ => ⟨g, rfl, hlt g rfl⟩⟩
theorem OwnT.cells {B g n c : Nat} {xs : List (Int × Int)} (h : OwnT B w (.slice (some ⟨g, 0, none⟩) n c) xs) {i : Nat} (hi : i < xs.length) :
    w.cell? ⟨g, i * 2, none⟩ = some (.int .i64 (toA xs i)) ∧ w.cell? ⟨g, i * 2 + 1, none⟩ = some (.int .i64 (wtA xs i)) ∧ w.frozen? ⟨g, i * 2 + 1, none⟩ = false := by
  obtain ⟨a', c', e, _, _⟩ := h.shape
  injection e with _ e _
  subst e
  obtain ⟨e1, e2⟩ := linkVs_at hi
  exact ⟨(World.ownsRow.cellAt h (i * 2) (by omega)).trans e1, (World.ownsRow.cellAt h (i * 2 + 1) (by omega)).trans e2, World.ownsRow.frozenAt h _⟩
theorem OwnT.links {B : Nat} {a : Option Addr} {n c : Nat} {xs : List (Int × Int)} (h : OwnT B w (.slice a n c) xs) (hf : ∀ x ∈ xs, I64 x.1 ∧ I64 x.2) : LinksAt w a xs := by
  obtain ⟨a', c', e, hl, hg⟩ := h.shape
  injection e with e1 e2 e3
  subst e1 e2 e3
  refine ⟨hl, fun h0 => ?_, hf⟩
  obtain ⟨g, rfl, _, hlt⟩ := hg h0
  exact ⟨g, 0, rfl, hlt, fun i hi => by rw [Nat.zero_add]; exact ⟨(h.cells hi).1, (h.cells hi).2.1⟩⟩
theorem linkVs_set : ∀ (xs : List (Int × Int)) (i : Nat) (z : Int), (linkVs xs).set (i * 2 + 1) (.int .i64 z) = linkVs (xs.set i (toA xs i, z))
  | [], i, z => rfl
  | p :: xs, 0, z => rfl
  | p :: xs, i + 1, z => by
    have ih := linkVs_set xs i z
    have e : linkVs (p :: xs) = .int .i64 p.1 :: .int .i64 p.2 :: linkVs xs := rfl
    rw [e, show (i + 1) * 2 + 1 = (i * 2 + 1) + 1 + 1 by omega]
    simp only [List.set_cons_succ]
    rw [ih]
    rfl
theorem OwnT.stored {B g n c : Nat} {xs : List (Int × Int)} (h : OwnT B w (.slice (some ⟨g, 0, none⟩) n c) xs) (i : Nat) (z : Int) : OwnT B (w.setCell ⟨g, i * 2 + 1, none⟩ (.int .i64 z)) (.slice (some ⟨g, 0, none⟩) n c) (xs.set i (toA xs i, z)) := by
  obtain ⟨a', c', e, _, _⟩ := h.shape
  injection e with _ e _
  subst e
  have := (World.ownsRow.stored h (i * 2 + 1) (.int .i64 z)).1
  rw [linkVs_set] at this
  unfold OwnT
  rw [List.length_set]
  exact this
theorem OwnT.drew {B : Nat} {v : Value} {xs : List (Int × Int)} (h : OwnT B w v xs) (n : Nat) : OwnT B (w.drewN n) v xs := h
theorem OwnT.far {B : Nat} {w' : World} {v : Value} {xs : List (Int × Int)} (h : OwnT B w v xs) (hb : Below w.heap.size w w') : OwnT B w' v xs :=
  World.ownsRow.kept h (row := none) ⟨hb.os, hb.tape, hb.output, hb.size, fun k hk _ => hb.block k hk⟩ (by cases v.ownBlock <;> simp)
/-- a copy of a list of terms, at the list of a plain region's operations -/
theorem wpList_copyT (hgd : o.guard = none) (s x : Operand) (ho : o.op = .call { callee := .builtin .append, args := #[s, x], argTypes := #[22, 22] })
    (la : Option Addr) (lc : Nat) (xs : List (Int × Int)) (m : Nat) (hm : m = xs.length) (hs' : a.eval s = .slice none 0 0) (hx : a.eval x = .slice la m lc) (h : LinksAt w la xs) (hl : xs.length ≤ 1000000)
    (hK : ∀ a' c' w', OwnT w.heap.size w' (.slice a' m c') xs → Below w.heap.size w w' → wpList Try.prog ops Q rest (a.put o.dst (.slice a' m c')) w') :
    wpList Try.prog ops Q (o :: rest) a w := by
  subst hm
  obtain ⟨i, hi, hz, hz1, hz2⟩ := info_parts infoTerm
  refine wpList_plain hgd fun K hK' => ?_
  obtain ⟨v', w', hr, h2, h3⟩ := run_copy (P := Try.prog) (w := w) 22 o.type 38 i (.agg #[.int .i64 0, .int .i64 0]) 2 16 Try.underlying22 hi hz hz1 hz2 rfl (by decide) la xs.length lc (linkVs xs) (linkVs_len xs) (fun ad e => by
    subst e
    intro j u hj
    have hlt : 0 < xs.length := by
      have := (List.getElem?_eq_some_iff.1 hj).1
      rw [linkVs_len] at this
      omega
    obtain ⟨b, off, e, _⟩ := h.row hlt
    injection e with e
    subst e
    exact links_cells h j u hj) (fun e => by
    rcases Nat.eq_zero_or_pos xs.length with h0 | h0
    · exact h0
    · obtain ⟨b, off, e', _⟩ := h.row h0
      rw [e] at e'
      cases e') linkVs_one hl (by decide)
  have h2' : OwnT w.heap.size w' v' xs := h2
  obtain ⟨a', c', e, _⟩ := h2'.shape
  subst e
  unfold Oper.wp execOp
  simp only [ho, resolve, invoke, builtin, Sem.run_bind, Sem.run_pure, Result.andThen_ok, List.map_toArray, List.map_cons, List.map_nil, hs', hx, hr]
  exact hK' _ _ (hK a' c' w' h2' h3)
end
end Go.Proofs.Ytckofngclgkajaa
namespace Go.Proofs.Ytckofngclgkajaa
set_option maxRecDepth 100000
open Go.RowKit

def renT (m : List Int) (t : Int × Int) : Int × Int := if t.1 = 5 ∨ t.1 = 12 then (t.1, idA m t.2.toNat) else t
def renL (xs : List (Int × Int)) (m : List Int) : List (Int × Int) := xs.map (renT m)
def renO (xs : List (Int × Int)) (m : List Int) : Int ⊕ List (Int × Int) :=
  if validE xs m.length = true then (if (m.all fun z => decide (0 ≤ z ∧ z < 6)) = true then .inr (renL xs m) else .inl 2) else .inl 7
/-- what is answered: an error and no list, or a list of the call's own -/
def RenSays (B : Nat) (o : Int ⊕ List (Int × Int)) (e : Ending) (w : World) : Prop :=
  match o with
  | .inl k => e = .returned (.tuple #[.slice none 0 0, .int .i64 k])
  | .inr ys => ∃ v, e = .returned (.tuple #[v, .int .i64 0]) ∧ OwnT B w v ys
/-- the first i terms are renamed -/
def renS (xs : List (Int × Int)) (m : List Int) (i : Nat) : List (Int × Int) := (xs.take i).map (renT m) ++ xs.drop i
section
variable {xs : List (Int × Int)} {m : List Int} {i : Nat}
theorem renS_zero : renS xs m 0 = xs := by simp [renS]
theorem renS_all : renS xs m xs.length = renL xs m := by simp [renS, renL]
theorem renS_len : (renS xs m i).length = xs.length := by simp [renS]; omega
theorem renS_get (hi : i < xs.length) : (renS xs m i)[i]? = some (toA xs i, wtA xs i) := by
  unfold renS
  have hl : ((xs.take i).map (renT m)).length = i := by simp; omega
  rw [List.getElem?_append_right (by omega), hl, Nat.sub_self, drop_tm hi]
  rfl
theorem renS_at (hi : i < xs.length) : toA (renS xs m i) i = toA xs i ∧ wtA (renS xs m i) i = wtA xs i := by
  have h := renS_get (m := m) hi
  constructor
  · conv => lhs; unfold toA
    rw [List.getD_eq_getElem?_getD, h]
    rfl
  · conv => lhs; unfold wtA
    rw [List.getD_eq_getElem?_getD, h]
    rfl
theorem renS_set (hi : i < xs.length) : (renS xs m i).set i (renT m (toA xs i, wtA xs i)) = renS xs m (i + 1) := by
  unfold renS
  have hl : ((xs.take i).map (renT m)).length = i := by simp; omega
  rw [List.set_append_right _ _ (by omega), hl, Nat.sub_self, drop_tm hi, List.set_cons_zero, List.take_add_one, List.map_append, List.append_assoc]
  congr 1
  simp [toA, wtA, hi]
theorem renS_skip (hi : i < xs.length) (h : ¬ (toA xs i = 5 ∨ toA xs i = 12)) : renS xs m i = renS xs m (i + 1) := by
  rw [← renS_set hi]
  have e : renT m (toA xs i, wtA xs i) = (toA xs i, wtA xs i) := by unfold renT; rw [if_neg h]
  rw [e]
  have h2 := renS_get (m := m) hi
  refine (List.ext_getElem? fun k => ?_)
  rw [List.getElem?_set]
  split
  · rename_i hk
    subst hk
    rw [h2]
    split
    · rfl
    · rename_i h3
      exact absurd (by rw [renS_len]; exact hi) h3
  · rfl
end
theorem OwnT.mono {w : World} {B B' : Nat} {v : Value} {xs : List (Int × Int)} (h : OwnT B w v xs) (hb : B' ≤ B) : OwnT B' w v xs := by
  obtain ⟨hl, h⟩ := h
  refine ⟨hl, ?_⟩
  rcases h with h | ⟨g, cap, cur, h1, h2, h3⟩
  · exact .inl h
  · exact .inr ⟨g, cap, cur, h1, by omega, h3⟩

set_option maxHeartbeats 1000000 in
theorem renameR_any (a : Option Addr) (c : Nat) (xs : List (Int × Int)) (ma : Option Addr) (mc : Nat) (zs : List Int) (w : World) (hX : LinksAt w a xs) (hn : xs.length ≤ 1000) (hZ : IntsAt w ma zs) :
    Calls Try.prog 26 #[.slice a xs.length c, .slice ma zs.length mc] w fun e w' => RenSays w.heap.size (renO xs zs) e w' ∧ Below w.heap.size w w' := by
  have HX := Lib.hid hX
  have HZ := Lib.hid hZ
  have hzl := hZ.size
  have HVc := Lib.hid (validR_any a c xs zs.length w hX hn)
  obtain ⟨m, hm⟩ : ∃ m, m = xs.length := ⟨_, rfl⟩
  obtain ⟨n, hn'⟩ : ∃ n, n = zs.length := ⟨_, rfl⟩
  have HM := Lib.hid hm
  have HN := Lib.hid hn'
  obtain ⟨R, hR⟩ : ∃ R, R = renO xs zs := ⟨_, rfl⟩
  rw [← hR]
  unfold renO at hR
  rw [← hn'] at hR HVc hzl ⊢
  rw [← hm] at HVc hn ⊢
  clear hm hn' hX hZ
  unfold maxLen at hzl
  cases hv : validE xs n with
  | false =>
    rw [hv, if_neg (by decide)] at hR
    subst hR
    go_enter Try.func26, Try.ntmps26
    go_wp2_with (go_at_call 25; refine HVc.out.mono ?_; rintro e w1 ⟨rfl, hb1⟩; rw [hv])
    refine bodyPost_ret (v := .tuple #[.slice none 0 0, .int .i64 7]) (by first | rfl | (simp [results]; done) | (kernel_rfl)) rfl ?_
    exact ⟨rfl, hb1⟩
  | true =>
    rw [hv, if_pos rfl] at hR
    have HA := Lib.hid (fun i hi => valid_arg (i := i) hv hi)
    have HR := Lib.hid hR
    clear hR
    have hpos : 0 < m := by
      rw [HM.out]
      unfold validE oneB at hv
      simp only [Bool.and_eq_true, decide_eq_true_eq] at hv
      exact hv.1.1.1.2.1
    go_enter Try.func26, Try.ntmps26
    go_wp2_with (go_at_call 25; refine HVc.out.mono ?_; rintro e w1 ⟨rfl, hb1⟩; rw [hv])
    have HB1 := Lib.hid hb1
    clear hb1 hv
    go_loopw [6] (fun t wr => ∃ i : Nat, t = .int .i64 i ∧ i ≤ n ∧ (∀ j, j < i → 0 ≤ idA zs j ∧ idA zs j < 6) ∧ Below w.heap.size w wr) (fun t _ => n - (intOf t).toNat)
    case atStart => exact ⟨0, rfl, Nat.zero_le _, fun j hj => absurd hj (by omega), by first | exact HB1.out | exact belDraws HB1.out _⟩
    case round =>
      obtain ⟨i, rfl, hin, hs, hbr⟩ := hrel
      have HS := Lib.hid hs
      have HBr := Lib.hid hbr
      clear hs hbr
      by_cases hlt : i < n
      · obtain ⟨zb, zo, rfl, hzb, hzc⟩ := HZ.out.row (by rw [← HN.out]; omega)
        have g1 := (HBr.out.cell (p := ⟨zb, zo + i, none⟩) hzb).trans (hzc i (by rw [← HN.out]; exact hlt))
        have hii : (i : Int) < n := by omega
        clear hzc
        by_cases e0 : 0 ≤ idA zs i
        · by_cases e1 : idA zs i < 6
          · have HS2 : Hid (∀ j, j < i + 1 → 0 ≤ idA zs j ∧ idA zs j < 6) := Lib.hid (fun j hj => by
              by_cases h : j < i
              · exact HS.out j h
              · rw [show j = i by omega]; exact ⟨e0, e1⟩)
            generalize idA zs i = z at g1 e0 e1
            have d0 : decide (z < 0) = false := by simp; omega
            have d1 : decide (z ≥ 6) = false := by simp; omega
            go_wp2
            go_roundw
            case rel => exact ⟨i + 1, by go_num, by omega, HS2.out, by first | exact HBr.out | exact belDraws HBr.out _⟩
            case measure => simp [intOf]; omega
          · have hr : R = .inl 2 := by
              rw [HR.out, if_neg]
              rw [Bool.not_eq_true, ← Bool.not_eq_true, List.all_eq_true]
              intro h
              have hil : i < zs.length := by rw [← HN.out]; exact hlt
              have := h zs[i] (List.getElem_mem hil)
              simp [idA, hil] at e1 this
              omega
            generalize idA zs i = z at g1 e0 e1
            have d0 : decide (z < 0) = false := by simp; omega
            have d1 : decide (z ≥ 6) = true := by simp; omega
            go_wp2
            refine bodyPost_ret (v := .tuple #[.slice none 0 0, .int .i64 2]) (by first | rfl | (simp [results]; done) | (kernel_rfl)) rfl ?_
            exact ⟨rfl, by first | exact HBr.out | exact belDraws HBr.out _⟩
        · have hr : R = .inl 2 := by
            rw [HR.out, if_neg]
            rw [Bool.not_eq_true, ← Bool.not_eq_true, List.all_eq_true]
            intro h
            have hil : i < zs.length := by rw [← HN.out]; exact hlt
            have := h zs[i] (List.getElem_mem hil)
            simp [idA, hil] at e0 this
            omega
          generalize idA zs i = z at g1 e0
          have d0 : decide (z < 0) = true := by simp; omega
          go_wp2
          refine bodyPost_ret (v := .tuple #[.slice none 0 0, .int .i64 2]) (by first | rfl | (simp [results]; done) | (kernel_rfl)) rfl ?_
          exact ⟨rfl, by first | exact HBr.out | exact belDraws HBr.out _⟩
      · obtain rfl : i = n := by omega
        have hr : R = .inr (renL xs zs) := by
          rw [HR.out, if_pos]
          rw [List.all_eq_true]
          intro z hz
          obtain ⟨k, hk, rfl⟩ := List.mem_iff_getElem.1 hz
          have := HS.out k (by rw [HN.out]; exact hk)
          simpa [idA, hk] using this
        subst hr
        clear HR HS
        have HXr := Lib.hid (HX.out.below HBr.out)
        have HMl : Hid (m = xs.length) := HM
        have hx6 : xs.length ≤ 1000000 := by rw [← HM.out]; omega
        have HX6 := Lib.hid hx6
        clear hx6
        go_wp2_with (at_builtin; refine wpList_copyT rfl _ (.tmp 32) rfl a c xs m HMl.out rfl rfl HXr.out HX6.out ?_; intro a1 c1 w2 hown hb2)
        have hB2 := HBr.out.trans (hb2.mono HBr.out.size)
        have hO2 := hown.mono HBr.out.size
        obtain ⟨a', c', he, _, hg⟩ := hO2.shape
        injection he with e1 e2 e3
        subst e1 e3
        obtain ⟨g, rfl, hgw, hgl⟩ := hg (by rw [← HM.out]; exact hpos)
        have HB2 := Lib.hid hB2
        have HO2 := Lib.hid hO2
        clear hB2 hO2 hown hb2 e2 hgl
        go_loopw [8] (fun t wq => ∃ q : Nat, t = .int .i64 q ∧ q ≤ m ∧ OwnT w.heap.size wq (.slice (some ⟨g, 0, none⟩) m c1) (renS xs zs q) ∧ Below w.heap.size w wq) (fun t _ => m - (intOf t).toNat)
        case atStart => exact ⟨0, rfl, Nat.zero_le _, by rw [renS_zero]; exact HO2.out, HB2.out⟩
        case round =>
          obtain ⟨q, rfl, hqm, hoq, hbq⟩ := hrel
          have HOq := Lib.hid hoq
          have HBq := Lib.hid hbq
          clear hoq hbq
          by_cases hql : q < m
          · have hxl : q < xs.length := by rw [← HM.out]; exact hql
            obtain ⟨t0, t1, t2⟩ := HOq.out.cells (i := q) (by rw [renS_len]; exact hxl)
            rw [(renS_at hxl).1] at t0
            rw [(renS_at hxl).2] at t1
            have hab := HA.out q hxl
            have hqi : (q : Int) < m := by omega
            have hsk := renS_skip (m := zs) hxl
            obtain ⟨op, hop⟩ : ∃ op, toA xs q = op := ⟨_, rfl⟩
            obtain ⟨x, hx'⟩ : ∃ x, wtA xs q = x := ⟨_, rfl⟩
            rw [hop] at t0 hab hsk
            rw [hx'] at t1 hab
            have HOP := Lib.hid hop
            have HXX := Lib.hid hx'
            clear hop hx'
            by_cases e5 : op = 5
            · subst e5
              clear hsk
              have hx := arg_var hab (.inl rfl)
              obtain ⟨d, rfl⟩ : ∃ d : Nat, x = d := ⟨x.toNat, by omega⟩
              obtain ⟨zb, zo, rfl, hzb, hzc⟩ := HZ.out.row (by rw [← HN.out]; omega)
              have y1 := (HBq.out.cell (p := ⟨zb, zo + d, none⟩) hzb).trans (hzc d (by rw [← HN.out]; omega))
              have hst := HOq.out.stored q (idA zs d)
              have hse : (renS xs zs q).set q (toA (renS xs zs q) q, idA zs d) = renS xs zs (q + 1) := by
                rw [(renS_at hxl).1, ← renS_set hxl, HOP.out]
                congr 1
                unfold renT
                rw [if_pos (.inl rfl), HXX.out]
                rfl
              rw [hse] at hst
              have HST := Lib.hid hst
              have HBS := Lib.hid (HBq.out.setCell (p := ⟨g, q * 2 + 1, none⟩) hgw (.int .i64 (idA zs d)))
              have hd0 : (0 : Int) ≤ d := by omega
              have hd1 : (d : Int) < i := by omega
              clear hzc hst hse hab hx
              generalize idA zs d = z at y1 HST HBS
              go_wp2
              go_roundw
              case rel => exact ⟨q + 1, by go_num, by omega, HST.out, HBS.out⟩
              case measure => simp [intOf]; omega
            · by_cases e12 : op = 12
              · subst e12
                clear hsk
                have hx := arg_var hab (.inr rfl)
                obtain ⟨d, rfl⟩ : ∃ d : Nat, x = d := ⟨x.toNat, by omega⟩
                obtain ⟨zb, zo, rfl, hzb, hzc⟩ := HZ.out.row (by rw [← HN.out]; omega)
                have y1 := (HBq.out.cell (p := ⟨zb, zo + d, none⟩) hzb).trans (hzc d (by rw [← HN.out]; omega))
                have hst := HOq.out.stored q (idA zs d)
                have hse : (renS xs zs q).set q (toA (renS xs zs q) q, idA zs d) = renS xs zs (q + 1) := by
                  rw [(renS_at hxl).1, ← renS_set hxl, HOP.out]
                  congr 1
                  unfold renT
                  rw [if_pos (.inr rfl), HXX.out]
                  rfl
                rw [hse] at hst
                have HST := Lib.hid hst
                have HBS := Lib.hid (HBq.out.setCell (p := ⟨g, q * 2 + 1, none⟩) hgw (.int .i64 (idA zs d)))
                have hd0 : (0 : Int) ≤ d := by omega
                have hd1 : (d : Int) < i := by omega
                clear hzc hst hse hab hx
                generalize idA zs d = z at y1 HST HBS
                go_wp2
                go_roundw
                case rel => exact ⟨q + 1, by go_num, by omega, HST.out, HBS.out⟩
                case measure => simp [intOf]; omega
              · have q5 : (op == 5) = false := by simpa using e5
                have q12 : (op == 12) = false := by simpa using e12
                have hst : OwnT w.heap.size wr (.slice (some ⟨g, 0, none⟩) m c1) (renS xs zs (q + 1)) := by
                  rw [← hsk (by omega)]
                  exact HOq.out
                have HST := Lib.hid hst
                clear hst hsk hab e5 e12
                go_wp2
                go_roundw
                case rel => exact ⟨q + 1, by go_num, by omega, by first | exact HST.out | exact HST.out.drew _, by first | exact HBq.out | exact belDraws HBq.out _⟩
                case measure => simp [intOf]; omega
          · obtain rfl : q = m := by omega
            have hfin := HOq.out
            rw [HM.out, renS_all, ← HM.out] at hfin
            have HFin := Lib.hid hfin
            clear hfin
            go_wp2
            refine bodyPost_ret (v := .tuple #[.slice (some ⟨g, 0, none⟩) q c1, .int .i64 0]) (by first | rfl | (simp [results]; done) | (kernel_rfl)) rfl ?_
            exact ⟨⟨_, rfl, by first | exact HFin.out | exact HFin.out.drew _⟩, by first | exact HBq.out | exact belDraws HBq.out _⟩
end Go.Proofs.Ytckofngclgkajaa
namespace Go.Proofs.Ytckofngclgkajaa
set_option maxRecDepth 100000
open Go.RowKit

theorem lightE_any (a : Option Addr) (n c : Nat) (w : World) : Calls Try.prog 11 #[.slice a n c] w fun e w' => e = .returned (.bool (decide (n ≤ 250))) ∧ w' = w := by
  by_cases h : n ≤ 250
  all_goals
    have d1 : decide (n ≤ 250) = decide (n ≤ 250) := rfl
    conv at d1 => rhs; simp only [h, decide_true, decide_false]
    have d2 : decide ((n : Int) ≤ 250) = decide (n ≤ 250) := by rw [decide_eq_decide]; omega
    go_enter Try.func11, Try.ntmps11
    go_wp2
    go_ret
    exact ⟨ret_bool (by first | rfl | (rw [d1] <;> simp <;> omega)), rfl⟩
end Go.Proofs.Ytckofngclgkajaa
namespace Go.Proofs.Ytckofngclgkajaa
set_option maxRecDepth 100000
open Go.RowKit

theorem linkVs_append (ys xs : List (Int × Int)) : linkVs (ys ++ xs) = linkVs ys ++ linkVs xs := by simp [linkVs]
section
variable {ops : Array Oper} {o : Oper} {a : Act} {w W : World} {K : Act → World → Prop} {Q : Exit → Act → World → Prop} {E : Prop} {rest : List Oper}
/-- a list that is not empty is appended to a list of one's own -/
theorem run_appT (ty : TypeId) (B : Nat) (v : Value) (ys : List (Int × Int)) (hown : OwnT B w v ys) (la : Option Addr) (lc : Nat) (xs : List (Int × Int)) (h : LinksAt w la xs) (h0 : 0 < xs.length) (hl : ys.length + xs.length ≤ 1000000) (hB : B ≤ w.heap.size) :
    ∃ a' c' w', (Builtin.append_ #[22, 22] ty #[v, .slice la xs.length lc]).run Try.prog w = .ok (.slice a' (ys.length + xs.length) c') w' ∧ OwnT B w' (.slice a' (ys.length + xs.length) c') (ys ++ xs) ∧ w.grownBy w' v.ownBlock := by
  obtain ⟨i, hi, hz, hz1, hz2⟩ := info_parts infoTerm
  obtain ⟨b, off, rfl, _⟩ := h.row h0
  obtain ⟨v', w', hr, h2, h3, _⟩ := run_append_own (P := Try.prog) w B 22 ty 38 i (.agg #[.int .i64 0, .int .i64 0]) 2 16 Try.underlying22 hi hz hz1 hz2 rfl (by decide) v ys.length (linkVs ys) hown ⟨b, off, none⟩ xs.length lc (linkVs xs) (linkVs_len xs) (links_cells h) linkVs_one (by unfold maxLen; omega) (by omega) hB
  rw [← linkVs_append] at h2
  have h2' : OwnT B w' v' (ys ++ xs) := by
    unfold OwnT
    rw [List.length_append]
    exact h2
  obtain ⟨a', c', e, _⟩ := h2'.shape
  rw [List.length_append] at e
  subst e
  exact ⟨a', c', w', hr, h2', h3⟩
theorem wpList_appT (hgd : o.guard = none) (s x : Operand) (ho : o.op = .call { callee := .builtin .append, args := #[s, x], argTypes := #[22, 22] })
    (B : Nat) (v : Value) (ys : List (Int × Int)) (n : Nat) (hn : n = ys.length) (hown : OwnT B w v ys) (la : Option Addr) (lc : Nat) (xs : List (Int × Int)) (m : Nat) (hm : m = xs.length) (hs' : a.eval s = v) (hx : a.eval x = .slice la m lc) (h : LinksAt w la xs) (h0 : 0 < xs.length) (hl : ys.length + xs.length ≤ 1000000) (hB : B ≤ w.heap.size)
    (hK : ∀ a' c' w', OwnT B w' (.slice a' (n + m) c') (ys ++ xs) → w.grownBy w' v.ownBlock → wpList Try.prog ops Q rest (a.put o.dst (.slice a' (n + m) c')) w') :
    wpList Try.prog ops Q (o :: rest) a w := by
  subst hn hm
  refine wpList_plain hgd fun K hK' => ?_
  obtain ⟨a', c', w', hr, h2, h3⟩ := run_appT o.type B v ys hown la lc xs h h0 hl hB
  unfold Oper.wp execOp
  simp only [ho, resolve, invoke, builtin, Sem.run_bind, Sem.run_pure, Result.andThen_ok, List.map_toArray, List.map_cons, List.map_nil, hs', hx, hr]
  exact hK' _ _ (hK a' c' w' h2 h3)
theorem step_appT (hgd : o.guard = none) (s x : Operand) (ho : o.op = .call { callee := .builtin .append, args := #[s, x], argTypes := #[22, 22] })
    (B : Nat) (v : Value) (ys : List (Int × Int)) (n : Nat) (hn : n = ys.length) (hown : OwnT B w v ys) (la : Option Addr) (lc : Nat) (xs : List (Int × Int)) (m : Nat) (hm : m = xs.length) (hs' : a.eval s = v) (hx : a.eval x = .slice la m lc) (h : LinksAt w la xs) (h0 : 0 < xs.length) (hl : ys.length + xs.length ≤ 1000000) (hB : B ≤ w.heap.size)
    (hK : ∀ a' c' w', OwnT B w' (.slice a' (n + m) c') (ys ++ xs) → w.grownBy w' v.ownBlock → K (a.put o.dst (.slice a' (n + m) c')) w') :
    if Region.wanted o (yielded ops a.tmps) = true then Oper.wp Try.prog o a w K Q else E := by
  subst hn hm
  have hw : Region.wanted o (yielded ops a.tmps) = true := by simp [Region.wanted, hgd]
  rw [if_pos hw]
  obtain ⟨a', c', w', hr, h2, h3⟩ := run_appT o.type B v ys hown la lc xs h h0 hl hB
  unfold Oper.wp execOp
  simp only [ho, resolve, invoke, builtin, Sem.run_bind, Sem.run_pure, Result.andThen_ok, List.map_toArray, List.map_cons, List.map_nil, hs', hx, hr]
  exact hK a' c' w' h2 h3
end
/-- a list of one's own that lies in a new block -/
theorem OwnT.lit (w : World) (B : Nat) (xs : List (Int × Int)) (cs : Array Value) (n : Nat) (hn : n = xs.length) (hc : cs.toList = linkVs xs) (hB : B ≤ w.heap.size) (hm : xs.length ≤ maxLen) : OwnT B (w.alloc (.cells cs 38)) (.slice (some ⟨w.heap.size, 0, none⟩) n n) xs := by
  subst hn
  have hs : cs.size = xs.length * 2 := by rw [← Array.length_toList, hc, linkVs_len]
  have := World.ownsRow_lit (base := B) (e := 38) (size := 2) w cs xs.length hB hm hs
  rw [hc] at this
  exact this
/-- a part of a list -/
theorem LinksAt.part {w : World} {b o : Nat} {xs : List (Int × Int)} (h : LinksAt w (some ⟨b, o, none⟩) xs) {p m : Nat} (hp : p + m ≤ xs.length) : LinksAt w (some ⟨b, o + p * 2, none⟩) ((xs.drop p).take m) := by
  have hlen : ((xs.drop p).take m).length = m := by rw [List.length_take, List.length_drop]; omega
  refine ⟨by have := h.size; omega, fun h0 => ?_, fun x hx => h.fits x (List.mem_of_mem_drop (List.mem_of_mem_take hx))⟩
  obtain ⟨b', o', e, hb, hc⟩ := h.row (by omega)
  injection e with e
  injection e with e1 e2
  subst e1 e2
  refine ⟨b, o + p * 2, rfl, hb, fun i hi => ?_⟩
  rw [hlen] at hi
  obtain ⟨c0, c1⟩ := hc (p + i) (by omega)
  have e : ((xs.drop p).take m).getD i (0, 0) = xs.getD (p + i) (0, 0) := by
    rw [List.getD_eq_getElem?_getD, List.getD_eq_getElem?_getD, List.getElem?_take_of_lt hi, List.getElem?_drop]
  unfold toA at c0
  unfold wtA at c1
  unfold toA wtA
  rw [e, show o + p * 2 + i * 2 = o + (p + i) * 2 by omega]
  exact ⟨c0, c1⟩
end Go.Proofs.Ytckofngclgkajaa
