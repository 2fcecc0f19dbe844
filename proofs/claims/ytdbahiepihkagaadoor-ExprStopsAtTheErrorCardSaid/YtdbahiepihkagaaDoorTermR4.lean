/- What levels of the specification of layer 5 answers. -/
import Derived.Test.YtdbahiepihkagaaDoorTermR
import Derived.Test.YtdbahiepihkagaaDoorTermP1
import Derived.Test.YtdbahiepihkagaaDoorTermTop
import Derived.OrdersHeld
import Derived.RegionTactic
import Derived.KernelRfl
import Derived.Tactics
import Derived.IntWalk
namespace Go.Proofs.YtdbahiepihkagaaDoor
set_option maxRecDepth 100000
open Go.RowKit Go.Shelf
attribute [local go_sem] Oper.semAt_some

/-- what a round keeps: what lies below n, and the box at B -/
def KeepsB (n B : Nat) (W W' : World) : Prop := Below n W W' ∧ ∀ v, W.cell? ⟨B, 0, none⟩ = some v → W'.cell? ⟨B, 0, none⟩ = some v
theorem KeepsB.refl (n B : Nat) (W : World) : KeepsB n B W W := ⟨Below.refl _ _, fun _ h => h⟩
theorem KeepsB.trans {n B : Nat} {X Y Z : World} (h : KeepsB n B X Y) (k : KeepsB n B Y Z) : KeepsB n B X Z := ⟨h.1.trans k.1, fun v hv => k.2 v (h.2 v hv)⟩
theorem KeepsB.put {n B : Nat} {w : World} (hn : n ≤ w.heap.size) (W : World) (l : Nat) (o o' : Obj) (hl : w.heap.size ≤ l) (h : W.heap[l]? = some o) (hc : o.isCells = false) (hw : o.isWalk = false) : KeepsB n B W (W.putObj l o') := by
  refine ⟨belowK_b hn W l o o' hl h hc hw, fun v hv => ?_⟩
  by_cases e : B = l
  · subst e
    simp only [World.cell?, h] at hv
    cases o with
    | cells a t f => cases hc
    | _ => simp at hv
  · have hs : (W.putObj l o').heap[B]? = W.heap[B]? := World.putObj_heap_other (by intro h; first | exact e h | exact e h.symm)
    simp only [World.cell?] at hv ⊢
    rw [hs]
    exact hv

/-- what the round with the number k is given: a place and its term -/
def backV (xs : List (Int × Int)) (k : Nat) : Array Value := #[.int .i64 ((xs.length - 1 - k : Nat) : Int), .agg #[.int .i64 (toA xs (xs.length - 1 - k)), .int .i64 (wtA xs (xs.length - 1 - k))]]

set_option maxRecDepth 100000 in
set_option maxHeartbeats 2000000 in
theorem back_rounds (F : Fence) (n : Nat) (hf : F.fn 85) (hro : F.round = none) (hn : 1 ≤ n) (Bs n₀ b off m cap : Nat) (xs : List (Int × Int)) (hm : m = xs.length) (h0m : 0 < m) (hreach : m ≤ 1000000) (hb : b < n₀)
    (w : World) (hBw : Bs < w.heap.size) (hnw : n₀ ≤ w.heap.size) (hBs' : w.cell? ⟨Bs, 0, none⟩ = some (.slice (some ⟨b, off, none⟩) m cap)) (hc' : ∀ i, i < m → w.cell? ⟨b, off + i * 2, none⟩ = some (.int .i64 (toA xs i)) ∧ w.cell? ⟨b, off + i * 2 + 1, none⟩ = some (.int .i64 (wtA xs i))) :
    Rounds F n Tryd.prog 85 #[.pointer (some ⟨Bs, 0, none⟩)] (backV xs) m (KeepsB n₀ Bs) w := by
  intro l J W hW hY h0
  have HC := Lib.hid (fun i (h : i < m) => (⟨(hW.cell (p := ⟨b, off + i * 2, none⟩) (show b < w.heap.size by omega)).trans (hc' i h).1, (hW.cell (p := ⟨b, off + i * 2 + 1, none⟩) (show b < w.heap.size by omega)).trans (hc' i h).2⟩ : _ ∧ _))
  have hBs := (hW.cell (p := ⟨Bs, 0, none⟩) hBw).trans hBs'
  have HM := Lib.hid hm
  have HY := Lib.hid hY
  clear hc' hBs' hm hW hBw hnw hY
  refine callsIn_of_wp Tryd.func85 rfl hf ?_ hro
  simp only [Tryd.ntmps85, List.size_toArray, List.length_cons, List.length_nil, Nat.reduceAdd, Nat.reduceSub, Array.replicate_succ, Array.replicate_zero, List.push_toArray, List.append_toArray, List.nil_append, List.cons_append]
  gi_wp2
  gi_loopw [3] (fun i wr => ∃ k : Nat, k ≤ m ∧ i = .int .i64 ((m : Int) - 1 - k) ∧ J k wr ∧ KeepsB n₀ Bs W wr)
    (fun i _ => (intOf i + 1).toNat)
  case atStart => exact ⟨0, Nat.zero_le _, by first | (go_num; done) | (congr 1; omega), h0, KeepsB.refl _ _ _⟩
  case round =>
    obtain ⟨k, hk, rfl, hJs, hnx⟩ := hrel
    by_cases hlt : k < m
    · obtain ⟨j, hj⟩ : ∃ j : Nat, j = m - 1 - k := ⟨_, rfl⟩
      have hjm : j < m := by omega
      have ej : (m : Int) - 1 - k = j := by omega
      have hcx : wr.cell? ⟨Bs, 0, none⟩ = some (.slice (some ⟨b, off, none⟩) m cap) := hnx.2 _ hBs
      have g1 := (hnx.1.cell (p := ⟨b, off + j * 2, none⟩) hb).trans (HC.out j hjm).1
      have g2 := (hnx.1.cell (p := ⟨b, off + j * 2 + 1, none⟩) hb).trans (HC.out j hjm).2
      obtain ⟨fn, tmps, assign, body, hy, hR⟩ := HY.out k wr hlt hJs
      unfold backV at hy
      rw [← HM.out, ← hj] at hy
      generalize toA xs j = op at g1 hy
      generalize wtA xs j = ar at g2 hy
      have hj0 : (0 : Int) ≤ j := by omega
      have hj1 : (j : Int) < m := by omega
      have HK := Lib.hid hj
      have HNx := Lib.hid hnx
      rw [ej]
      clear hj hnx
      gi_wp2
      refine hR.mono ?_
      rintro e W3 ⟨rfl, hJ3, hk3⟩
      gi_wp2
      go_roundw
      case rel => exact ⟨k + 1, by omega, by have := HK.out; first | (go_num; done) | (congr 1; omega), hJ3, HNx.out.trans hk3⟩
      case measure => first | (simp [intOf]; done) | (simp [intOf]; omega)
    · obtain rfl : k = m := by omega
      have d0 : decide ((k : Int) - 1 - k ≥ 0) = false := by simp; omega
      gi_wp2
      go_end0
      exact ⟨⟨_, rfl⟩, hJs⟩

set_option maxHeartbeats 1000000 in
theorem back_in (F : Fence) (n : Nat) (hf : F.fn 77) (hro : F.round = none) (a : Option Addr) (len cap : Nat) (w : World) :
    CallsIn F n Tryd.prog 77 #[.slice a len cap] w fun e w' => e = .returned (.func (.func 85) #[] #[.pointer (some ⟨w.heap.size, 0, none⟩)]) ∧ w' = w.alloc (.cells #[.slice a len cap] 29) := by
  refine callsIn_of_wp Tryd.func77 rfl hf ?_ hro
  simp only [Tryd.ntmps77, List.size_toArray, List.length_cons, List.length_nil, Nat.reduceAdd, Nat.reduceSub, Array.replicate_succ, Array.replicate_zero, List.push_toArray, List.append_toArray, List.nil_append, List.cons_append]
  gi_wp2
  go_ret
  exact ⟨rfl, rfl⟩
end Go.Proofs.YtdbahiepihkagaaDoor
namespace Go.Proofs.YtdbahiepihkagaaDoor
open Go

section
variable {P : Program} {ops : Array Oper} {Q : Exit → Act → World → Prop} {md : Region.Mode} {S : World → Prop} {T : List Nat}

/-- none of T has come up -/
def Calm (T : List Nat) (l : Array Bool) : Prop := ∀ t ∈ T, l.getD t true = false
/-- whatever order is picked from here on; S behind each operation until one of T comes up -/
def AnyK (P : Program) (md : Region.Mode) (ops : Array Oper) (Q : Exit → Act → World → Prop) (S : World → Prop) (T : List Nat) : Nat → Array Bool → Act → World → Prop
  | 0, l, a, w => Region.ready md ops l = [] ∧ Q .normal a w
  | n + 1, l, a, w => (Region.ready md ops l = [] → Q .normal a w) ∧
    ∀ i ∈ Region.ready md ops l, wpOp P ops Q i (fun a' w' => (Calm T (l.setIfInBounds i true) → S w') ∧ AnyK P md ops Q S T n (l.setIfInBounds i true) a' w') a w
theorem AnyK.any : ∀ (n : Nat) (l : Array Bool) (a : Act) (w : World), AnyK P md ops Q S T n l a w → wpAny P md ops Q n l a w
  | 0, _, _, _, h => h
  | n + 1, _, _, _, h => ⟨h.1, fun i hi => wpOp_mono (fun a' w' k => AnyK.any n _ a' w' k.2) (h.2 i hi)⟩

theorem calm_set {l : Array Bool} {i : Nat} (hi : i ∉ T) : Calm T (l.setIfInBounds i true) ↔ Calm T l := by
  constructor
  all_goals
    intro h t ht
    have := h t ht
    rw [getD_set_ne true (fun e => hi (by rw [e]; exact ht))] at *
    exact this
theorem not_ready {l : Array Bool} {i t : Nat} (hi : i ∈ Region.ready md ops l) (ht : ∃ o, ops[t]? = some o ∧ ∃ e ∈ o.after, Region.binds md e = true ∧ e.on = i) : t ∉ Region.ready md ops l := by
  intro h
  obtain ⟨_, o, ho, hall⟩ := mem_ready.1 h
  obtain ⟨o', ho', e, he, hb, heq⟩ := ht
  rw [ho] at ho'
  obtain rfl : o = o' := Option.some.inj ho'
  have h1 := hall e he hb
  rw [heq] at h1
  have h0 := (mem_ready.1 hi).1
  rcases Nat.lt_or_ge i l.size with h' | h'
  · simp [h'] at h0 h1; rw [h0] at h1; cases h1
  · simp [Array.getElem?_eq_none h'] at h1
/-- the way of both laws: F is what makes the operation yield its value, at a state and a world -/
theorem first_free {i : Nat} {l : Array Bool} (hi : i ∈ Region.ready md ops l) {j : Nat} {oj : Oper} (hoj : ops[j]? = some oj) (hj : j ∈ Region.ready md ops l) : ∀ e ∈ oj.after, Region.binds md e = true → e.on ≠ i := by
  intro e he hb heq
  exact not_ready hi ⟨oj, hoj, e, he, hb, heq⟩ hj
theorem free_set {i j : Nat} {oi : Oper} {l : Array Bool} (hfree : ∀ k ok, ops[k]? = some ok → k ≠ i → l.getD k true = false → (∀ e ∈ ok.after, Region.binds md e = true → e.on ≠ i) → oi.apart ops ok = true) (hjun : l.getD j true = false) :
    ∀ k ok, ops[k]? = some ok → k ≠ i → (l.setIfInBounds j true).getD k true = false → (∀ e ∈ ok.after, Region.binds md e = true → e.on ≠ i) → oi.apart ops ok = true := fun k ok hk hki hun hno => by
  refine hfree k ok hk hki ?_ hno
  by_cases hjk : j = k
  · subst hjk; exact hjun
  · rwa [getD_set_ne true hjk] at hun

/-- an operation that yields its value in whatever world -/
theorem AnyK.pure {i : Nat} {oi : Oper} {v : Value} (hi : ops[i]? = some oi) (hs : Region.noSelect ops = true) (hQ : ∀ c a w, Q (.panic c) (a.put oi.dst v) w → Q (.panic c) a w) (hiT : i ∉ T) :
    ∀ (n : Nat) (l : Array Bool) (a : Act) (w : World), (∀ k ok, ops[k]? = some ok → k ≠ i → l.getD k true = false → (∀ e ∈ ok.after, Region.binds md e = true → e.on ≠ i) → oi.apart ops ok = true) →
      i ∈ Region.ready md ops l → Yields P ops oi v a → (Calm T l → S w) →
      AnyK P md ops Q S T n (l.setIfInBounds i true) (a.put oi.dst v) w → AnyK P md ops Q S T (n + 1) l a w := by
  have hsel := Region.noSelect_spec hs
  intro n
  induction n with
  | zero =>
    intro l a w _ hr hy hc H
    refine ⟨fun h => (by rw [h] at hr; cases hr), fun j hj => ?_⟩
    by_cases hji : j = i
    · subst hji; exact hy.wpOp hi ⟨fun h => hc ((calm_set hiT).1 h), H⟩
    · have := ready_mono hj hji
      rw [H.1] at this
      cases this
  | succ n ih =>
    intro l a w hfree hr hy hc H
    refine ⟨fun h => (by rw [h] at hr; cases hr), fun j hj => ?_⟩
    by_cases hji : j = i
    · subst hji; exact hy.wpOp hi ⟨fun h => hc ((calm_set hiT).1 h), H⟩
    · obtain ⟨hjun, oj, hoj, _⟩ := mem_ready.1 hj
      have h2 := wpOp_put hoj (hfree j oj hoj hji hjun (first_free hr hoj hj)) (fun cs b => hsel i oi cs b hi) (fun cs b => hsel j oj cs b hoj) hQ hy (H.2 j (ready_mono hj hji))
      refine wpOp_mono (fun a' w' h3 => ?_) h2
      have hS : Calm T (l.setIfInBounds j true) → S w' := fun h => h3.2.1 (by rw [Array.setIfInBounds_comm _ _ (Ne.symm hji), calm_set hiT]; exact h)
      refine ⟨hS, ih (l.setIfInBounds j true) a' w' (free_set hfree hjun) (ready_mono hr (Ne.symm hji)) h3.1 hS ?_⟩
      rw [Array.setIfInBounds_comm _ _ hji]
      exact h3.2.2
/-- an operation that yields its value in every world that meets S, for which all of T wait -/
theorem AnyK.load {i : Nat} {oi : Oper} {v : Value} (hi : ops[i]? = some oi) (hs : Region.noSelect ops = true) (hQ : ∀ c a w, Q (.panic c) (a.put oi.dst v) w → Q (.panic c) a w) (hiT : i ∉ T)
    (hT : ∀ t ∈ T, ∃ o, ops[t]? = some o ∧ ∃ e ∈ o.after, Region.binds md e = true ∧ e.on = i) :
    ∀ (n : Nat) (l : Array Bool) (a : Act) (w : World), (∀ k ok, ops[k]? = some ok → k ≠ i → l.getD k true = false → (∀ e ∈ ok.after, Region.binds md e = true → e.on ≠ i) → oi.apart ops ok = true) →
      i ∈ Region.ready md ops l → YieldsIf P ops S oi v a → Calm T l → S w →
      AnyK P md ops Q S T n (l.setIfInBounds i true) (a.put oi.dst v) w → AnyK P md ops Q S T (n + 1) l a w := by
  have hsel := Region.noSelect_spec hs
  intro n
  induction n with
  | zero =>
    intro l a w _ hr hy _ hS H
    refine ⟨fun h => (by rw [h] at hr; cases hr), fun j hj => ?_⟩
    by_cases hji : j = i
    · subst hji; exact hy.wpOp hi hS ⟨fun _ => hS, H⟩
    · have := ready_mono hj hji
      rw [H.1] at this
      cases this
  | succ n ih =>
    intro l a w hfree hr hy hc hS H
    refine ⟨fun h => (by rw [h] at hr; cases hr), fun j hj => ?_⟩
    by_cases hji : j = i
    · subst hji; exact hy.wpOp hi hS ⟨fun _ => hS, H⟩
    · obtain ⟨hjun, oj, hoj, _⟩ := mem_ready.1 hj
      have hjT : j ∉ T := fun h => not_ready hr (hT j h) hj
      have h2 := wpOp_putIf hoj (hfree j oj hoj hji hjun (first_free hr hoj hj)) (fun cs b => hsel i oi cs b hi) (fun cs b => hsel j oj cs b hoj) hQ hy (H.2 j (ready_mono hj hji))
      refine wpOp_mono (fun a' w' h3 => ?_) h2
      have hcj : Calm T (l.setIfInBounds j true) := (calm_set hjT).2 hc
      have hS' : S w' := h3.2.1 ((calm_set hjT).2 ((calm_set hiT).2 hc))
      refine ⟨fun _ => hS', ih (l.setIfInBounds j true) a' w' (free_set hfree hjun) (ready_mono hr (Ne.symm hji)) h3.1 hcj hS' ?_⟩
      rw [Array.setIfInBounds_comm _ _ hji]
      exact h3.2.2

/-! ### The moves of a walk -/
/-- no operation of T has come up, as a Bool -/
def calmB (T : List Nat) (l : Array Bool) : Bool := T.all fun t => !l.getD t true
theorem calm_of {l : Array Bool} (h : calmB T l = true) : Calm T l := fun t ht => by
  have := List.all_eq_true.1 h t ht
  simpa using this
theorem calm_not {l : Array Bool} (h : calmB T l = false) : ¬ Calm T l := fun k => by
  have : calmB T l = true := List.all_eq_true.2 fun t ht => by rw [k t ht]; rfl
  rw [this] at h; cases h
def waitsB (md : Region.Mode) (ops : Array Oper) (T : List Nat) (i : Nat) : Bool := T.all fun t => match ops[t]? with
  | some o => o.after.any fun e => Region.binds md e && e.on == i
  | none => false
theorem waits_of {i : Nat} (h : waitsB md ops T i = true) : ∀ t ∈ T, ∃ o, ops[t]? = some o ∧ ∃ e ∈ o.after, Region.binds md e = true ∧ e.on = i := fun t ht => by
  have h1 := List.all_eq_true.1 h t ht
  cases ho : ops[t]? with
  | none => rw [ho] at h1; cases h1
  | some o =>
    rw [ho] at h1
    obtain ⟨e, he, hb⟩ := Array.any_eq_true'.1 h1
    simp only [Bool.and_eq_true, beq_iff_eq] at hb
    exact ⟨o, rfl, e, he, hb.1, hb.2⟩
theorem keep_start {id : Nat} {a : Act} {w : World} (S : World → Prop) (T : List Nat) (hm : P.follows .mixedOrders = true)
    (h : AnyK P .any ops Q S T ops.size (Array.replicate ops.size false) a w.drew) : (Code.region id ops true).wp P Q a w :=
  wp_region_any hm (AnyK.any _ _ _ _ h)
theorem keep_pure (i : Nat) {oi : Oper} {v : Value} {n : Nat} {l : Array Bool} {a : Act} {w : World} (hi : ops[i]? = some oi) (hs : Region.noSelect ops = true) (hf : Region.free md ops l i = true) (hr : (Region.ready md ops l).contains i = true) (hiT : T.contains i = false)
    (hQ : ∀ c a w, Q (.panic c) (a.put oi.dst v) w → Q (.panic c) a w) (hy : Yields P ops oi v a) (hc : calmB T l = false ∨ S w)
    (h : AnyK P md ops Q S T n (l.setIfInBounds i true) (a.put oi.dst v) w) : AnyK P md ops Q S T (n + 1) l a w :=
  AnyK.pure hi hs hQ (by simpa using hiT) n l a w (Region.free_spec hi hf) (by simpa using hr) hy (fun k => hc.elim (fun e => absurd k (calm_not e)) id) h
theorem keep_load (i : Nat) {oi : Oper} {v : Value} {n : Nat} {l : Array Bool} {a : Act} {w : World} (hi : ops[i]? = some oi) (hs : Region.noSelect ops = true) (hf : Region.free md ops l i = true) (hr : (Region.ready md ops l).contains i = true) (hiT : T.contains i = false) (hT : waitsB md ops T i = true) (hc : calmB T l = true)
    (hQ : ∀ c a w, Q (.panic c) (a.put oi.dst v) w → Q (.panic c) a w) (hy : YieldsIf P ops S oi v a) (hS : S w)
    (h : AnyK P md ops Q S T n (l.setIfInBounds i true) (a.put oi.dst v) w) : AnyK P md ops Q S T (n + 1) l a w :=
  AnyK.load hi hs hQ (by simpa using hiT) (waits_of hT) n l a w (Region.free_spec hi hf) (by simpa using hr) hy (calm_of hc) hS h
theorem keep_done {l : Array Bool} {a : Act} {w : World} {n : Nat} (hr : Region.ready md ops l = []) (h : Q .normal a w) : AnyK P md ops Q S T n l a w := by
  cases n with
  | zero => exact ⟨hr, h⟩
  | succ n => exact ⟨fun _ => h, by rw [hr]; simp⟩
theorem keep_op {i : Nat} {o : Oper} {n : Nat} {l : Array Bool} {a : Act} {w : World} (ho : ops[i]? = some o)
    (h : ∀ K : Act → World → Prop, (∀ a' w', (Calm T (l.setIfInBounds i true) → S w') → AnyK P md ops Q S T n (l.setIfInBounds i true) a' w' → K a' w') → if Region.wanted o (yielded ops a.tmps) = true then Oper.wp P o a w K Q else K (a.put o.dst undef) w) :
    wpOp P ops Q i (fun a' w' => (Calm T (l.setIfInBounds i true) → S w') ∧ AnyK P md ops Q S T n (l.setIfInBounds i true) a' w') a w := by
  have h1 := h (fun a' w' => (Calm T (l.setIfInBounds i true) → S w') ∧ AnyK P md ops Q S T n (l.setIfInBounds i true) a' w') (fun a' w' hS hA => ⟨hS, hA⟩)
  unfold wpOp
  simp only [ho]
  split
  · rename_i hw
    rw [if_pos hw] at h1
    exact .inl h1
  · rename_i hw
    rw [if_neg hw] at h1
    exact h1
/-- only number i may come up -/
theorem keep_one (i : Nat) {o : Oper} {n : Nat} {l : Array Bool} {a : Act} {w : World} (hr : Region.ready md ops l = [i]) (ho : ops[i]? = some o)
    (h : ∀ K : Act → World → Prop, (∀ a' w', (Calm T (l.setIfInBounds i true) → S w') → AnyK P md ops Q S T n (l.setIfInBounds i true) a' w' → K a' w') → if Region.wanted o (yielded ops a.tmps) = true then Oper.wp P o a w K Q else K (a.put o.dst undef) w) : AnyK P md ops Q S T (n + 1) l a w := by
  refine ⟨fun e => ?_, fun j hj => ?_⟩
  · rw [hr] at e; cases e
  · rw [hr] at hj
    obtain rfl : j = i := by simpa using hj
    exact keep_op ho h
/-- number i or number j may come up -/
theorem keep_two (i j : Nat) {o o' : Oper} {n : Nat} {l : Array Bool} {a : Act} {w : World} (hr : Region.ready md ops l = [i, j]) (ho : ops[i]? = some o) (ho' : ops[j]? = some o')
    (h : ∀ K : Act → World → Prop, (∀ a' w', (Calm T (l.setIfInBounds i true) → S w') → AnyK P md ops Q S T n (l.setIfInBounds i true) a' w' → K a' w') → if Region.wanted o (yielded ops a.tmps) = true then Oper.wp P o a w K Q else K (a.put o.dst undef) w)
    (h' : ∀ K : Act → World → Prop, (∀ a' w', (Calm T (l.setIfInBounds j true) → S w') → AnyK P md ops Q S T n (l.setIfInBounds j true) a' w' → K a' w') → if Region.wanted o' (yielded ops a.tmps) = true then Oper.wp P o' a w K Q else K (a.put o'.dst undef) w) : AnyK P md ops Q S T (n + 1) l a w := by
  refine ⟨fun e => ?_, fun k hk => ?_⟩
  · rw [hr] at e; cases e
  · rw [hr] at hk
    have : k = i ∨ k = j := by simpa using hk
    rcases this with rfl | rfl
    · exact keep_op ho h
    · exact keep_op ho' h'
end

/-! ### The moves of a walk -/
end Go.Proofs.YtdbahiepihkagaaDoor
namespace Go.Proofs.YtdbahiepihkagaaDoor
open Go.RowKit Go.Deep

def lenV : Value → Nat
  | .slice _ l _ => l
  | _ => 0
set_option linter.unusedVariables false
set_option linter.unusedSimpArgs false
end Go.Proofs.YtdbahiepihkagaaDoor
