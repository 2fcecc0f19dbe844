/- What slices.DeleteFunc does with a row of the call's own. -/
import Derived.Test.YtkffpipcjdhbaaaClone
import Derived.Test.YtkffpipcjdhbaaaGraph5
import Derived.LoopN
namespace Go.Proofs.Ytkffpipcjdhbaaa
open Go.RowKit

set_option maxHeartbeats 400000 in
theorem isCut_any (to wt v : Int) (vb : Nat) (w : World) (hv : w.cell? ⟨vb, 0, none⟩ = some (.int .i64 v)) (hlt : vb < w.heap.size) :
    Calls Try.prog 59 #[.agg #[.int .i64 to, .int .i64 wt], .pointer (some ⟨vb, 0, none⟩)] w fun e w' => e = .returned (.bool (to == v)) ∧ Below w.heap.size w w' := by
  go_enter Try.func59, Try.ntmps59
  go_wp2
  go_ret
  exact ⟨rfl, (Below.refl _ _).alloc (Nat.le_refl _) _⟩

set_option maxHeartbeats 400000 in
theorem indexCut_any (la : Option Addr) (lc : Nat) (xs : List (Int × Int)) (v : Int) (vb : Nat) (w : World) (hL : LinksAt w la xs) (hv : w.cell? ⟨vb, 0, none⟩ = some (.int .i64 v)) (hvb : vb < w.heap.size) :
    Calls Try.prog 74 #[.slice la xs.length lc, .func (Fn.func 59) #[] #[.pointer (some ⟨vb, 0, none⟩)]] w fun e w' => e = .returned (.int .i64 (portF xs v)) ∧ Below w.heap.size w w' := by
  have hlm := hL.size
  unfold maxLen at hlm
  go_enter Try.func74, Try.ntmps74
  go_wp2
  go_loopw [8] (fun t wr => ∃ k : Nat, k ≤ xs.length ∧ t = .int .i64 k ∧ (∀ j, j < k → toA xs j ≠ v) ∧ Below w.heap.size w wr) (fun t _ => xs.length - (intOf t).toNat)
  case atStart => exact ⟨0, Nat.zero_le _, rfl, fun j hj => absurd hj (by omega), Below.refl _ _⟩
  case round =>
    obtain ⟨k, hk, rfl, hn, hbel⟩ := hrel
    have Hn := Lib.hid hn
    have Hv := Lib.hid hv
    clear hn hv
    by_cases hlt : k < xs.length
    · obtain ⟨lb, lo, rfl, hlb, hcs⟩ := (hL.below hbel).row (by omega)
      have hck1 := (hcs k hlt).1
      have hck2 := (hcs k hlt).2
      clear hcs
      by_cases he : toA xs k = v
      · have h0 : (toA xs k == v) = true := by simpa using he
        have Hp := Lib.hid (portF_found hlt he Hn.out)
        clear he
        go_wp2_with (go_at_call 59; refine (isCut_any _ _ v vb _ ((hbel.cell (p := ⟨vb, 0, none⟩) hvb).trans Hv.out) (Nat.lt_of_lt_of_le hvb hbel.size)).mono ?_; rintro e w2 ⟨rfl, hb2⟩)
        go_ret
        exact ⟨ret_int Hp.out.symm, hbel.trans (hb2.mono hbel.size)⟩
      · have h0 : (toA xs k == v) = false := by simpa using he
        have He := Lib.hid he
        clear he
        go_wp2_with (go_at_call 59; refine (isCut_any _ _ v vb _ ((hbel.cell (p := ⟨vb, 0, none⟩) hvb).trans Hv.out) (Nat.lt_of_lt_of_le hvb hbel.size)).mono ?_; rintro e w2 ⟨rfl, hb2⟩)
        go_roundw
        case rel => exact ⟨k + 1, by omega, by go_num, fun j hj => by
          rcases Nat.lt_or_ge j k with h | h
          · exact Hn.out j h
          · rw [show j = k by omega]; exact He.out, hbel.trans (hb2.mono hbel.size)⟩
        case measure => simp [intOf]; omega
    · have Hp := Lib.hid (portF_none (xs := xs) (u := v) (fun j hj => Hn.out j (by omega)))
      go_wp2
      go_ret
      exact ⟨ret_int Hp.out.symm, hbel⟩


/-! ### A row of the call's own that shrinks -/
theorem own_shrink {w : World} {B : Nat} {e : TypeId} {s g n m cap : Nat} {xs : List Value} (h : w.ownsRow B e s (.slice (some ⟨g, 0, none⟩) n cap) n xs) (hm : m ≤ n) : w.ownsRow B e s (.slice (some ⟨g, 0, none⟩) m cap) m (xs.take (m * s)) := by
  obtain ⟨hl, h⟩ := h
  rcases h with ⟨h1, _⟩ | ⟨g', cap', cur, h1, h2, h3, h4, h5, h6, h7⟩
  · cases h1
  · injection h1 with e1 e2 e3
    injection e1 with e1
    injection e1 with e1
    subst e1 e3
    have hms : m * s ≤ n * s := Nat.mul_le_mul_right s hm
    refine ⟨by rw [List.length_take, hl]; omega, .inr ⟨g, cap, cur, rfl, h2, h3, by omega, h5, h6, ?_⟩⟩
    rw [← h7, List.take_take]
    congr 1
    omega
theorem linkVs_set (ys : List (Int × Int)) (k : Nat) (q : Int × Int) : ((linkVs ys).set (k * 2) (.int .i64 q.1)).set (k * 2 + 1) (.int .i64 q.2) = linkVs (ys.set k q) := by
  induction ys generalizing k with
  | nil => simp [linkVs]
  | cons y ys ih =>
    cases k with
    | zero => simp [linkVs]
    | succ k =>
      have e : linkVs (y :: ys) = .int .i64 y.1 :: .int .i64 y.2 :: linkVs ys := rfl
      have e2 : linkVs (y :: ys.set k q) = .int .i64 y.1 :: .int .i64 y.2 :: linkVs (ys.set k q) := rfl
      rw [e, List.set_cons_succ, e2, ← ih k, show (k + 1) * 2 = k * 2 + 1 + 1 by omega, List.set_cons_succ, List.set_cons_succ, List.set_cons_succ, List.set_cons_succ]
theorem Made.storeL {W w : World} {gb i g n cap k : Nat} {x1 x2 v1 v2 : Value} {zs : List Int} {hs : List Value} {us : List (Value × List (Int × Int))} {ys : List (Int × Int)} (h : Made W gb w x1 x2 v1 zs v2 hs us) (hi : us[i]? = some (.slice (some ⟨g, 0, none⟩) n cap, ys)) (hn : n = ys.length) (q : Int × Int) :
    Made W gb ((w.setCell ⟨g, k * 2, none⟩ (.int .i64 q.1)).setCell ⟨g, k * 2 + 1, none⟩ (.int .i64 q.2)) x1 x2 v1 zs v2 hs (us.set i (.slice (some ⟨g, 0, none⟩) n cap, ys.set k q)) := by
  subst hn
  obtain ⟨hlt, hu⟩ := List.getElem?_eq_some_iff.1 hi
  have ho : w.ownsRow W.heap.size 50 2 (.slice (some ⟨g, 0, none⟩) ys.length cap) ys.length (linkVs ys) := h.lnk (u := (.slice (some ⟨g, 0, none⟩) ys.length cap, ys)) (List.mem_of_getElem? hi)
  obtain ⟨o1, g1⟩ := World.ownsRow.stored ho (k * 2) (.int .i64 q.1)
  obtain ⟨o2, g2⟩ := World.ownsRow.stored o1 (k * 2 + 1) (.int .i64 q.2)
  refine h.turn hlt _ (by rw [hu]; exact g1.trans g2) ?_ (fun g' e => .inl (by rw [hu]; exact e))
  unfold LinkOwn Rw.Held lnkR
  rw [linkVs_set] at o2
  simpa using o2
theorem Made.shrink {W w : World} {gb i g n m cap : Nat} {x1 x2 v1 v2 : Value} {zs : List Int} {hs : List Value} {us : List (Value × List (Int × Int))} {ys zs' : List (Int × Int)} (h : Made W gb w x1 x2 v1 zs v2 hs us) (hi : us[i]? = some (.slice (some ⟨g, 0, none⟩) n cap, ys)) (hn : n = ys.length) (hm : m ≤ n) (hz : zs'.length = m) (ht : (linkVs ys).take (m * 2) = linkVs zs') :
    Made W gb w x1 x2 v1 zs v2 hs (us.set i (.slice (some ⟨g, 0, none⟩) m cap, zs')) := by
  subst hn
  obtain ⟨hlt, hu⟩ := List.getElem?_eq_some_iff.1 hi
  have ho : w.ownsRow W.heap.size 50 2 (.slice (some ⟨g, 0, none⟩) ys.length cap) ys.length (linkVs ys) := h.lnk (u := (.slice (some ⟨g, 0, none⟩) ys.length cap, ys)) (List.mem_of_getElem? hi)
  have o2 := own_shrink ho hm
  rw [ht] at o2
  refine h.turn hlt _ (by rw [hu]; exact ⟨rfl, rfl, rfl, Nat.le_refl _, fun _ _ _ => rfl⟩) ?_ (fun g' e => .inl (by rw [hu]; exact e))
  unfold LinkOwn Rw.Held lnkR
  rw [hz]
  exact o2
/-- a link of a row of the call's own: its cells -/
theorem Made.linkAt {W w : World} {gb i g n cap : Nat} {x1 x2 v1 v2 : Value} {zs : List Int} {hs : List Value} {us : List (Value × List (Int × Int))} {ys : List (Int × Int)} (h : Made W gb w x1 x2 v1 zs v2 hs us) (hi : us[i]? = some (.slice (some ⟨g, 0, none⟩) n cap, ys)) (hn : n = ys.length) {k : Nat} (hk : k < n) :
    w.cell? ⟨g, k * 2, none⟩ = some (.int .i64 (toA ys k)) ∧ w.cell? ⟨g, k * 2 + 1, none⟩ = some (.int .i64 (wtA ys k)) ∧ w.frozen? ⟨g, k * 2, none⟩ = false ∧ w.frozen? ⟨g, k * 2 + 1, none⟩ = false := by
  subst hn
  have ho : w.ownsRow W.heap.size 50 2 (.slice (some ⟨g, 0, none⟩) ys.length cap) ys.length (linkVs ys) := h.lnk (u := (.slice (some ⟨g, 0, none⟩) ys.length cap, ys)) (List.mem_of_getElem? hi)
  obtain ⟨e1, e2⟩ := linkVs_at hk
  have c1 := own_cell ho e1
  have c2 := own_cell ho e2
  rw [Nat.zero_add] at c1 c2
  exact ⟨c1, c2, World.ownsRow.frozenAt ho _, World.ownsRow.frozenAt ho _⟩
theorem Made.rowView {W w : World} {gb i g n cap : Nat} {x1 x2 v1 v2 : Value} {zs : List Int} {hs : List Value} {us : List (Value × List (Int × Int))} {ys : List (Int × Int)} (h : Made W gb w x1 x2 v1 zs v2 hs us) (hi : us[i]? = some (.slice (some ⟨g, 0, none⟩) n cap, ys)) (hn : n = ys.length) (hf : ∀ x ∈ ys, I64 x.1 ∧ I64 x.2) : LinksAt w (some ⟨g, 0, none⟩) ys := by
  subst hn
  obtain ⟨la, lc, e, hL⟩ := link_own (u := (.slice (some ⟨g, 0, none⟩) ys.length cap, ys)) (h.lnk (List.mem_of_getElem? hi)) hf
  injection e with e
  rw [e]
  exact hL
/-- the row while what stands behind p moves ahead: as far as j -/
def ysR (xs : List (Int × Int)) (p j : Nat) : List (Int × Int) := (List.range xs.length).map fun k => if p ≤ k ∧ k + 1 < j then xs.getD (k + 1) (0, 0) else xs.getD k (0, 0)
theorem ysR_len (xs : List (Int × Int)) (p j : Nat) : (ysR xs p j).length = xs.length := by simp [ysR]
theorem ysR_get {xs : List (Int × Int)} {p j k : Nat} (h : k < xs.length) : (ysR xs p j)[k]? = some (if p ≤ k ∧ k + 1 < j then xs.getD (k + 1) (0, 0) else xs.getD k (0, 0)) := by
  unfold ysR
  rw [List.getElem?_map, List.getElem?_range h]
  rfl
theorem getD_get {xs : List (Int × Int)} {k : Nat} (h : k < xs.length) : some (xs.getD k (0, 0)) = xs[k]? := by simp [List.getD, h]
theorem ysR_start (xs : List (Int × Int)) (p : Nat) : ysR xs p (p + 1) = xs := by
  refine List.ext_getElem? fun k => ?_
  by_cases h : k < xs.length
  · rw [ysR_get h, if_neg (by omega), getD_get h]
  · rw [List.getElem?_eq_none (by rw [ysR_len]; omega), List.getElem?_eq_none (by omega)]
theorem ysR_at {xs : List (Int × Int)} {p j : Nat} (hj : j < xs.length) : toA (ysR xs p j) j = toA xs j ∧ wtA (ysR xs p j) j = wtA xs j := by
  have e : (ysR xs p j).getD j (0, 0) = xs.getD j (0, 0) := by
    rw [List.getD_eq_getElem?_getD, ysR_get hj, if_neg (by omega)]
    rfl
  exact ⟨congrArg Prod.fst e, congrArg Prod.snd e⟩
theorem ysR_step {xs : List (Int × Int)} {p j : Nat} (hp : p < j) : (ysR xs p j).set (j - 1) (toA xs j, wtA xs j) = ysR xs p (j + 1) := by
  refine List.ext_getElem? fun k => ?_
  by_cases h : k < xs.length
  · by_cases e : k = j - 1
    · subst e
      rw [List.getElem?_set_self (by rw [ysR_len]; exact h), ysR_get h, if_pos (by omega), show j - 1 + 1 = j by omega]
      rfl
    · rw [List.getElem?_set_ne (by omega), ysR_get h, ysR_get h]
      by_cases h2 : p ≤ k ∧ k + 1 < j
      · rw [if_pos h2, if_pos (by omega)]
      · rw [if_neg h2, if_neg (by omega)]
  · rw [List.getElem?_eq_none (by rw [List.length_set, ysR_len]; omega), List.getElem?_eq_none (by rw [ysR_len]; omega)]
/-- the row without its p-th link -/
def delR (xs : List (Int × Int)) (p : Nat) : List (Int × Int) := xs.take p ++ xs.drop (p + 1)
theorem delR_len {xs : List (Int × Int)} {p : Nat} (hp : p < xs.length) : (delR xs p).length = xs.length - 1 := by simp [delR]; omega
theorem linkVs_take (ys : List (Int × Int)) (m : Nat) : (linkVs ys).take (m * 2) = linkVs (ys.take m) := by
  induction ys generalizing m with
  | nil => simp [linkVs]
  | cons y ys ih =>
    cases m with
    | zero => simp [linkVs]
    | succ m =>
      have e : linkVs (y :: ys) = .int .i64 y.1 :: .int .i64 y.2 :: linkVs ys := rfl
      rw [e, show (m + 1) * 2 = m * 2 + 1 + 1 by omega, List.take_succ_cons, List.take_succ_cons, ih m]
      rfl
theorem ysR_end {xs : List (Int × Int)} {p : Nat} (hp : p < xs.length) (q : Int × Int) : ((ysR xs p xs.length).set (xs.length - 1) q).take (xs.length - 1) = delR xs p := by
  rw [List.take_set_of_le (Nat.le_refl _)]
  refine List.ext_getElem? fun k => ?_
  unfold delR
  by_cases h : k < xs.length - 1
  · rw [List.getElem?_take_of_lt h, ysR_get (by omega)]
    by_cases e : p ≤ k
    · rw [if_pos (by omega), getD_get (by omega), List.getElem?_append_right (by simp; omega)]
      simp only [List.length_take, List.getElem?_drop]
      rw [show p + 1 + (k - min p xs.length) = k + 1 by omega]
    · rw [if_neg (by omega), getD_get (by omega), List.getElem?_append_left (by simp; omega), List.getElem?_take_of_lt (by omega)]
  · rw [List.getElem?_eq_none (by simp [ysR_len]; omega), List.getElem?_eq_none (by simp; omega)]
theorem clear_link {w : World} {g o c : Nat} {x y : Value} (ty : TypeId) (h0 : w.cell? ⟨g, o, none⟩ = some x) (h1 : w.cell? ⟨g, o + 1, none⟩ = some y) (f0 : w.frozen? ⟨g, o, none⟩ = false) (f1 : w.frozen? ⟨g, o + 1, none⟩ = false) :
    (Builtin.clear_ #[48] ty #[.slice (some ⟨g, o, none⟩) 1 c]).run Try.prog w = .ok (.tuple #[]) ((w.setCell ⟨g, o, none⟩ (.int .i64 0)).setCell ⟨g, o + 1, none⟩ (.int .i64 0)) := by
  have e1 : (Builtin.zeroCells #[Value.int .i64 0, Value.int .i64 0] 1).toList = [.int .i64 0, .int .i64 0] := by kernel_rfl
  have h1' : (w.setCell ⟨g, o, none⟩ (.int .i64 0)).cell? ⟨g, o + 1, none⟩ = some y := by rw [set_other (by simp)]; exact h1
  have f1' : (w.setCell ⟨g, o, none⟩ (.int .i64 0)).frozen? ⟨g, o + 1, none⟩ = false := by rw [World.frozen?_setCell]; exact f1
  simp [Builtin.clear_, run_underlying Try.underlying48, e1, storeCells, add_none, h0, h1', f0, f1', go_sem, Result.andThen]
end Go.Proofs.Ytkffpipcjdhbaaa
namespace Go.Proofs.Ytkffpipcjdhbaaa
open Go.RowKit

theorem own_cap {w : World} {B : Nat} {e : TypeId} {s g n m cap : Nat} {xs : List Value} (h : w.ownsRow B e s (.slice (some ⟨g, 0, none⟩) n cap) m xs) : m ≤ cap := by
  obtain ⟨_, h⟩ := h
  rcases h with ⟨h1, _⟩ | ⟨g', cap', cur, h1, h2, h3, h4, _⟩
  · cases h1
  · injection h1 with e1 e2 e3
    omega
theorem set_set {us : List (Value × List (Int × Int))} {i : Nat} {u v : Value × List (Int × Int)} : (us.set i u).set i v = us.set i v := by simp
theorem at_set {us : List (Value × List (Int × Int))} {i : Nat} {u : Value × List (Int × Int)} (h : i < us.length) : (us.set i u)[i]? = some u := by
  rw [List.getElem?_set_self h]
set_option maxHeartbeats 2000000 in
set_option maxRecDepth 100000 in
theorem deleteFunc_any (W w : World) (gb i g n cap p v cb : Nat) (x1 x2 v1 v2 : Value) (zs : List Int) (hs : List Value) (us : List (Value × List (Int × Int))) (xs : List (Int × Int)) (hM : Made W gb w x1 x2 v1 zs v2 hs us)
    (hi : us[i]? = some (.slice (some ⟨g, 0, none⟩) n cap, xs)) (hn : n = xs.length) (hn2 : n ≤ 1000) (hfit : ∀ x ∈ xs, I64 x.1 ∧ I64 x.2) (hp : p < n) (hpt : toA xs p = v) (hun : ∀ j, j < n → j ≠ p → toA xs j ≠ v)
    (hcb : w.cell? ⟨cb, 0, none⟩ = some (.int .i64 v)) (hcg : cb ≠ g) :
    Calls Try.prog 58 #[.slice (some ⟨g, 0, none⟩) n cap, .func (Fn.func 59) #[] #[.pointer (some ⟨cb, 0, none⟩)]] w fun e w' => e = .returned (.slice (some ⟨g, 0, none⟩) (n - 1) cap) ∧
      Made W gb w' x1 x2 v1 zs v2 hs (us.set i (.slice (some ⟨g, 0, none⟩) (n - 1) cap, delR xs p)) ∧ w.heap.size ≤ w'.heap.size := by
  obtain ⟨hlt, hu⟩ := List.getElem?_eq_some_iff.1 hi
  have hcl := cell_lt hcb
  have hport : portF xs v = p := portF_found (by omega) hpt (fun j hj => hun j (by omega) (by omega))
  have hL : LinksAt w (some ⟨g, 0, none⟩) xs := hM.rowView hi hn hfit
  have hidx := indexCut_any (some ⟨g, 0, none⟩) cap xs v cb w hL hcb hcl
  rw [← hn, hport] at hidx
  have hpn : ((p : Int) == -1) = false := by rw [beq_eq_false_iff_ne]; omega
  have hcap : n ≤ cap := by
    have ho : w.ownsRow W.heap.size 50 2 (.slice (some ⟨g, 0, none⟩) n cap) xs.length (linkVs xs) := hM.lnk (u := (.slice (some ⟨g, 0, none⟩) n cap, xs)) (List.mem_of_getElem? hi)
    exact hn ▸ own_cap ho
  have hM0 : Made W gb w x1 x2 v1 zs v2 hs (us.set i (.slice (some ⟨g, 0, none⟩) n cap, ysR xs p (p + 1))) := by
    rw [ysR_start, ← hu, List.set_getElem_self]; exact hM
  have Hidx := Lib.hid hidx
  have HM0 := Lib.hid hM0
  have Hun := Lib.hid hun
  have Hn := Lib.hid hn
  have Hlt := Lib.hid hlt
  have Hcb := Lib.hid hcb
  clear hidx hM0 hun hn hlt hu hM hi hL hport hpt hfit hcb
  go_enter Try.func58, Try.ntmps58
  go_wp2_with (go_at_call 74; go_must (refine Hidx.out.mono ?_; rintro e w1 ⟨rfl, hb1⟩); have hM1 := HM0.out.below hb1; have hc1 := (hb1.cell (p := ⟨cb, 0, none⟩) hcl).trans Hcb.out; have hs1 := hb1.size; have HM1 := Lib.hid hM1; have Hc1 := Lib.hid hc1; clear hM1 hb1 hc1)
  go_loopw [5, 6] (fun ti tj wr => ∃ k : Nat, ti = .int .i64 k ∧ tj = .int .i64 ((k : Int) + 1) ∧ p ≤ k ∧ k + 1 ≤ n ∧ Made W gb wr x1 x2 v1 zs v2 hs (us.set i (.slice (some ⟨g, 0, none⟩) n cap, ysR xs p (k + 1))) ∧ wr.cell? ⟨cb, 0, none⟩ = some (.int .i64 v) ∧ w.heap.size ≤ wr.heap.size) (fun ti _ _ => n - (intOf ti).toNat)
  case atStart => exact ⟨p, rfl, by go_num, Nat.le_refl _, hp, HM1.out, Hc1.out, hs1⟩
  case round =>
    clear HM1 Hc1 hs1
    obtain ⟨k, rfl, rfl, hpk, hkn, hM, hc, hsz⟩ := hrel
    have hat := at_set (us := us) (i := i) (u := (Value.slice (some ⟨g, 0, none⟩) n cap, ysR xs p (k + 1))) Hlt.out
    have hlen : n = (ysR xs p (k + 1)).length := by rw [ysR_len]; exact Hn.out
    have Hat := Lib.hid hat
    have Hlen := Lib.hid hlen
    have HM := Lib.hid hM
    clear hat hlen hM
    have hgl := (cell_lt (HM.out.linkAt Hat.out Hlen.out (k := k) (by omega)).1)
    have hgl : g < wr.heap.size := hgl
    have hc0 := cell_lt hc
    have hc0 : cb < wr.heap.size := hc0
    by_cases hlt : k + 1 < n
    · obtain ⟨e0, e1, _, _⟩ := HM.out.linkAt Hat.out Hlen.out (k := k + 1) hlt
      obtain ⟨a0, a1⟩ := ysR_at (xs := xs) (p := p) (j := k + 1) (by rw [← Hn.out]; exact hlt)
      rw [a0] at e0
      rw [a1] at e1
      have hne := Hun.out (k + 1) hlt (by omega)
      have hne2 : (toA xs (k + 1) == (v : Int)) = false := by simpa using hne
      have hji : ((k : Int) + 1) = ((k + 1 : Nat) : Int) := by omega
      have Hji := Lib.hid hji
      clear a0 a1 hne hji
      generalize hx : toA xs (k + 1) = tx at *
      generalize hy : wtA xs (k + 1) = ty at *
      have Hx := Lib.hid hx
      have Hy := Lib.hid hy
      clear hx hy
      go_wp2_with (go_at_call 59; go_must (refine (isCut_any tx ty v cb _ (((Below.refl wr.heap.size wr).alloc (Nat.le_refl _) _).cell (p := ⟨cb, 0, none⟩) hc0 |>.trans hc) (by simp; omega)).mono ?_; rintro e w2 ⟨rfl, hb2⟩); rw [hne2]; have x0 : w2.cell? ⟨wr.heap.size, 0, none⟩ = some (.int .i64 tx) := (by rw [hb2.cell (p := ⟨wr.heap.size, 0, none⟩) (by simp)]; simp [cell_push0]); have x1 : w2.cell? ⟨wr.heap.size, 1, none⟩ = some (.int .i64 ty) := (by rw [hb2.cell (p := ⟨wr.heap.size, 1, none⟩) (by simp)]; simp [cell_push0]); have hM2 := (HM.out.alloc (.cells #[.int .i64 tx, .int .i64 ty] 50)).below hb2; obtain ⟨s0, s1, s2, s3⟩ := hM2.linkAt Hat.out Hlen.out (k := k) (by omega); have hc2 := (hb2.cell (p := ⟨cb, 0, none⟩) (by simp; omega)).trans ((((Below.refl wr.heap.size wr).alloc (Nat.le_refl _) _).cell (p := ⟨cb, 0, none⟩) hc0).trans hc); have hs2 : wr.heap.size + 1 ≤ w2.heap.size := (by simpa using hb2.size); have HM2 := Lib.hid hM2; have Hc2 := Lib.hid hc2; clear hM2 hb2 hc2)
      have hM3 := HM2.out.storeL (k := k) Hat.out Hlen.out (tx, ty)
      rw [set_set] at hM3
      have hst := ysR_step (xs := xs) (p := p) (j := k + 1) (by omega)
      rw [Hx.out, Hy.out, show k + 1 - 1 = k by omega] at hst
      rw [hst] at hM3
      have HM3 := Lib.hid hM3
      clear hM3 hst
      have hc3 : ((w2.setCell ⟨g, k * 2, none⟩ (.int .i64 tx)).setCell ⟨g, k * 2 + 1, none⟩ (.int .i64 ty)).cell? ⟨cb, 0, none⟩ = some (.int .i64 v) := by
        rw [set_other (by simp <;> omega), set_other (by simp <;> omega)]; exact Hc2.out
      have Hc3 := Lib.hid hc3
      clear hc3
      go_roundw
      case rel => exact ⟨k + 1, by go_num, by go_num, by omega, by omega, HM3.out, Hc3.out, by simp; omega⟩
      case measure => simp [intOf]; omega
    · obtain rfl : n = k + 1 := by omega
      obtain ⟨s0, s1, s2, s3⟩ := HM.out.linkAt Hat.out Hlen.out (k := k) (by omega)
      have hcl : ∀ ty, (Builtin.clear_ #[48] ty #[.slice (some ⟨g, k * 2, none⟩) 1 (cap - k)]).run Try.prog wr = .ok (.tuple #[]) ((wr.setCell ⟨g, k * 2, none⟩ (.int .i64 0)).setCell ⟨g, k * 2 + 1, none⟩ (.int .i64 0)) := fun ty => clear_link ty s0 s1 s2 s3
      have h11 : k + 1 - k = 1 := by omega
      go_wp2
      go_ret
      have hM4 := HM.out.storeL (k := k) Hat.out Hlen.out ((0 : Int), (0 : Int))
      rw [set_set] at hM4
      have hM5 := hM4.shrink (m := k) (zs' := delR xs p) (at_set Hlt.out) (by rw [List.length_set]; exact Hlen.out) (by omega) (by rw [delR_len (by rw [← Hn.out]; exact hp), ← Hn.out]; omega) (by
        rw [linkVs_take]
        have := ysR_end (xs := xs) (p := p) (by rw [← Hn.out]; exact hp) ((0 : Int), (0 : Int))
        rw [← Hn.out] at this
        rw [show k + 1 - 1 = k by omega] at this
        rw [this])
      rw [set_set] at hM5
      refine ⟨rfl, hM5, ?_⟩
      simp
      omega
end Go.Proofs.Ytkffpipcjdhbaaa
