/- What levels of the specification of layer 5 answers. -/
import Derived.Test.YtdbahiepihkagaaGreatDoorTermR
import Derived.Test.YtdbahiepihkagaaGreatDoorTermP1
import Derived.Test.YtdbahiepihkagaaGreatDoorTermTop
import Derived.OrdersHeld
import Derived.RegionTactic
import Derived.KernelRfl
import Derived.Tactics
import Derived.IntWalk
namespace Go.Proofs.YtdbahiepihkagaaGreatDoor
set_option maxRecDepth 100000
open Go.RowKit Go.Shelf
attribute [local go_sem] Oper.semAt_some

/-- what a round keeps: what lies below n, and the box at B -/
def KeepsB (n B : Nat) (W W' : World) : Prop := Below n W W' ∧ ∀ v, W.cell? ⟨B, 0, none⟩ = some v → W'.cell? ⟨B, 0, none⟩ = some v
theorem KeepsB.refl (n B : Nat) (W : World) : KeepsB n B W W := ⟨Below.refl _ _, fun _ h => h⟩
theorem KeepsB.trans {n B : Nat} {X Y Z : World} (h : KeepsB n B X Y) (k : KeepsB n B Y Z) : KeepsB n B X Z := ⟨h.1.trans k.1, fun v hv => k.2 v (h.2 v hv)⟩
theorem KeepsB.put {n B : Nat} {w : World} (hn : n ≤ w.heap.size) (W : World) (l : Nat) (o o' : Obj) (hl : w.heap.size ≤ l) (h : W.heap[l]? = some o) (hc : o.isCells = false) (hw : o.isWalk = false) : KeepsB n B W (W.putObj l o') := by
  refine ⟨belowK_b hn W l o o' hl h hc hw, fun v hv => ?_⟩
  by_cases e : B = l
  · subst e
    simp only [World.cell?, h] at hv
    cases o with
    | cells a t f => cases hc
    | _ => simp at hv
  · have hs : (W.putObj l o').heap[B]? = W.heap[B]? := World.putObj_heap_other (by intro h; first | exact e h | exact e h.symm)
    simp only [World.cell?] at hv ⊢
    rw [hs]
    exact hv

/-- what the round with the number k is given: a place and its term -/
def backV (xs : List (Int × Int)) (k : Nat) : Array Value := #[.int .i64 ((xs.length - 1 - k : Nat) : Int), .agg #[.int .i64 (toA xs (xs.length - 1 - k)), .int .i64 (wtA xs (xs.length - 1 - k))]]

set_option maxRecDepth 100000 in
set_option maxHeartbeats 2000000 in
theorem back_rounds (F : Fence) (n : Nat) (hf : F.fn 192) (hro : F.round = none) (hn : 1 ≤ n) (Bs n₀ b off m cap : Nat) (xs : List (Int × Int)) (hm : m = xs.length) (h0m : 0 < m) (hreach : m ≤ 1000000) (hb : b < n₀)
    (w : World) (hBw : Bs < w.heap.size) (hnw : n₀ ≤ w.heap.size) (hBs' : w.cell? ⟨Bs, 0, none⟩ = some (.slice (some ⟨b, off, none⟩) m cap)) (hc' : ∀ i, i < m → w.cell? ⟨b, off + i * 2, none⟩ = some (.int .i64 (toA xs i)) ∧ w.cell? ⟨b, off + i * 2 + 1, none⟩ = some (.int .i64 (wtA xs i))) :
    Rounds F n Tryz.prog 192 #[.pointer (some ⟨Bs, 0, none⟩)] (backV xs) m (KeepsB n₀ Bs) w := by
  intro l J W hW hY h0
  have HC := Lib.hid (fun i (h : i < m) => (⟨(hW.cell (p := ⟨b, off + i * 2, none⟩) (show b < w.heap.size by omega)).trans (hc' i h).1, (hW.cell (p := ⟨b, off + i * 2 + 1, none⟩) (show b < w.heap.size by omega)).trans (hc' i h).2⟩ : _ ∧ _))
  have hBs := (hW.cell (p := ⟨Bs, 0, none⟩) hBw).trans hBs'
  have HM := Lib.hid hm
  have HY := Lib.hid hY
  clear hc' hBs' hm hW hBw hnw hY
  refine callsIn_of_wp Tryz.func192 rfl hf ?_ hro
  simp only [Tryz.ntmps192, List.size_toArray, List.length_cons, List.length_nil, Nat.reduceAdd, Nat.reduceSub, Array.replicate_succ, Array.replicate_zero, List.push_toArray, List.append_toArray, List.nil_append, List.cons_append]
  gi_wp2
  gi_loopw [3] (fun i wr => ∃ k : Nat, k ≤ m ∧ i = .int .i64 ((m : Int) - 1 - k) ∧ J k wr ∧ KeepsB n₀ Bs W wr)
    (fun i _ => (intOf i + 1).toNat)
  case atStart => exact ⟨0, Nat.zero_le _, by first | (go_num; done) | (congr 1; omega), h0, KeepsB.refl _ _ _⟩
  case round =>
    obtain ⟨k, hk, rfl, hJs, hnx⟩ := hrel
    by_cases hlt : k < m
    · obtain ⟨j, hj⟩ : ∃ j : Nat, j = m - 1 - k := ⟨_, rfl⟩
      have hjm : j < m := by omega
      have ej : (m : Int) - 1 - k = j := by omega
      have hcx : wr.cell? ⟨Bs, 0, none⟩ = some (.slice (some ⟨b, off, none⟩) m cap) := hnx.2 _ hBs
      have g1 := (hnx.1.cell (p := ⟨b, off + j * 2, none⟩) hb).trans (HC.out j hjm).1
      have g2 := (hnx.1.cell (p := ⟨b, off + j * 2 + 1, none⟩) hb).trans (HC.out j hjm).2
      obtain ⟨fn, tmps, assign, body, hy, hR⟩ := HY.out k wr hlt hJs
      unfold backV at hy
      rw [← HM.out, ← hj] at hy
      generalize toA xs j = op at g1 hy
      generalize wtA xs j = ar at g2 hy
      have hj0 : (0 : Int) ≤ j := by omega
      have hj1 : (j : Int) < m := by omega
      have HK := Lib.hid hj
      have HNx := Lib.hid hnx
      rw [ej]
      clear hj hnx
      gi_wp2
      refine hR.mono ?_
      rintro e W3 ⟨rfl, hJ3, hk3⟩
      gi_wp2
      go_roundw
      case rel => exact ⟨k + 1, by omega, by have := HK.out; first | (go_num; done) | (congr 1; omega), hJ3, HNx.out.trans hk3⟩
      case measure => first | (simp [intOf]; done) | (simp [intOf]; omega)
    · obtain rfl : k = m := by omega
      have d0 : decide ((k : Int) - 1 - k ≥ 0) = false := by simp; omega
      gi_wp2
      go_end0
      exact ⟨⟨_, rfl⟩, hJs⟩

set_option maxHeartbeats 1000000 in
theorem back_in (F : Fence) (n : Nat) (hf : F.fn 174) (hro : F.round = none) (a : Option Addr) (len cap : Nat) (w : World) :
    CallsIn F n Tryz.prog 174 #[.slice a len cap] w fun e w' => e = .returned (.func (.func 192) #[] #[.pointer (some ⟨w.heap.size, 0, none⟩)]) ∧ w' = w.alloc (.cells #[.slice a len cap] 25) := by
  refine callsIn_of_wp Tryz.func174 rfl hf ?_ hro
  simp only [Tryz.ntmps174, List.size_toArray, List.length_cons, List.length_nil, Nat.reduceAdd, Nat.reduceSub, Array.replicate_succ, Array.replicate_zero, List.push_toArray, List.append_toArray, List.nil_append, List.cons_append]
  gi_wp2
  go_ret
  exact ⟨rfl, rfl⟩
end Go.Proofs.YtdbahiepihkagaaGreatDoor
namespace Go.Proofs.YtdbahiepihkagaaGreatDoor
open Go

section
variable {P : Program} {ops : Array Oper} {Q : Exit → Act → World → Prop} {md : Region.Mode} {S : World → Prop} {T : List Nat}

/-- none of T has come up -/
def Calm (T : List Nat) (l : Array Bool) : Prop := ∀ t ∈ T, l.getD t true = false
/-- whatever order is picked from here on; S behind each operation until one of T comes up -/
def AnyK (P : Program) (md : Region.Mode) (ops : Array Oper) (Q : Exit → Act → World → Prop) (S : World → Prop) (T : List Nat) : Nat → Array Bool → Act → World → Prop
  | 0, l, a, w => Region.ready md ops l = [] ∧ Q .normal a w
  | n + 1, l, a, w => (Region.ready md ops l = [] → Q .normal a w) ∧
    ∀ i ∈ Region.ready md ops l, wpOp P ops Q i (fun a' w' => (Calm T (l.setIfInBounds i true) → S w') ∧ AnyK P md ops Q S T n (l.setIfInBounds i true) a' w') a w
theorem AnyK.any : ∀ (n : Nat) (l : Array Bool) (a : Act) (w : World), AnyK P md ops Q S T n l a w → wpAny P md ops Q n l a w
  | 0, _, _, _, h => h
  | n + 1, _, _, _, h => ⟨h.1, fun i hi => wpOp_mono (fun a' w' k => AnyK.any n _ a' w' k.2) (h.2 i hi)⟩

theorem calm_set {l : Array Bool} {i : Nat} (hi : i ∉ T) : Calm T (l.setIfInBounds i true) ↔ Calm T l := by
  constructor
  all_goals
    intro h t ht
    have := h t ht
    rw [getD_set_ne true (fun e => hi (by rw [e]; exact ht))] at *
    exact this
theorem not_ready {l : Array Bool} {i t : Nat} (hi : i ∈ Region.ready md ops l) (ht : ∃ o, ops[t]? = some o ∧ ∃ e ∈ o.after, Region.binds md e = true ∧ e.on = i) : t ∉ Region.ready md ops l := by
  intro h
  obtain ⟨_, o, ho, hall⟩ := mem_ready.1 h
  obtain ⟨o', ho', e, he, hb, heq⟩ := ht
  rw [ho] at ho'
  obtain rfl : o = o' := Option.some.inj ho'
  have h1 := hall e he hb
  rw [heq] at h1
  have h0 := (mem_ready.1 hi).1
  rcases Nat.lt_or_ge i l.size with h' | h'
  · simp [h'] at h0 h1; rw [h0] at h1; cases h1
  · simp [Array.getElem?_eq_none h'] at h1
/-- the way of both laws: F is what makes the operation yield its value, at a state and a world -/
theorem first_free {i : Nat} {l : Array Bool} (hi : i ∈ Region.ready md ops l) {j : Nat} {oj : Oper} (hoj : ops[j]? = some oj) (hj : j ∈ Region.ready md ops l) : ∀ e ∈ oj.after, Region.binds md e = true → e.on ≠ i := by
  intro e he hb heq
  exact not_ready hi ⟨oj, hoj, e, he, hb, heq⟩ hj
theorem free_set {i j : Nat} {oi : Oper} {l : Array Bool} (hfree : ∀ k ok, ops[k]? = some ok → k ≠ i → l.getD k true = false → (∀ e ∈ ok.after, Region.binds md e = true → e.on ≠ i) → oi.apart ops ok = true) (hjun : l.getD j true = false) :
    ∀ k ok, ops[k]? = some ok → k ≠ i → (l.setIfInBounds j true).getD k true = false → (∀ e ∈ ok.after, Region.binds md e = true → e.on ≠ i) → oi.apart ops ok = true := fun k ok hk hki hun hno => by
  refine hfree k ok hk hki ?_ hno
  by_cases hjk : j = k
  · subst hjk; exact hjun
  · rwa [getD_set_ne true hjk] at hun

/-- an operation that yields its value in whatever world -/
theorem AnyK.pure {i : Nat} {oi : Oper} {v : Value} (hi : ops[i]? = some oi) (hs : Region.noSelect ops = true) (hQ : ∀ c a w, Q (.panic c) (a.put oi.dst v) w → Q (.panic c) a w) (hiT : i ∉ T) :
    ∀ (n : Nat) (l : Array Bool) (a : Act) (w : World), (∀ k ok, ops[k]? = some ok → k ≠ i → l.getD k true = false → (∀ e ∈ ok.after, Region.binds md e = true → e.on ≠ i) → oi.apart ops ok = true) →
      i ∈ Region.ready md ops l → Yields P ops oi v a → (Calm T l → S w) →
      AnyK P md ops Q S T n (l.setIfInBounds i true) (a.put oi.dst v) w → AnyK P md ops Q S T (n + 1) l a w := by
  have hsel := Region.noSelect_spec hs
  intro n
  induction n with
  | zero =>
    intro l a w _ hr hy hc H
    refine ⟨fun h => (by rw [h] at hr; cases hr), fun j hj => ?_⟩
    by_cases hji : j = i
    · subst hji; exact hy.wpOp hi ⟨fun h => hc ((calm_set hiT).1 h), H⟩
    · have := ready_mono hj hji
      rw [H.1] at this
      cases this
  | succ n ih =>
    intro l a w hfree hr hy hc H
    refine ⟨fun h => (by rw [h] at hr; cases hr), fun j hj => ?_⟩
    by_cases hji : j = i
    · subst hji; exact hy.wpOp hi ⟨fun h => hc ((calm_set hiT).1 h), H⟩
    · obtain ⟨hjun, oj, hoj, _⟩ := mem_ready.1 hj
      have h2 := wpOp_put hoj (hfree j oj hoj hji hjun (first_free hr hoj hj)) (fun cs b => hsel i oi cs b hi) (fun cs b => hsel j oj cs b hoj) hQ hy (H.2 j (ready_mono hj hji))
      refine wpOp_mono (fun a' w' h3 => ?_) h2
      have hS : Calm T (l.setIfInBounds j true) → S w' := fun h => h3.2.1 (by rw [Array.setIfInBounds_comm _ _ (Ne.symm hji), calm_set hiT]; exact h)
      refine ⟨hS, ih (l.setIfInBounds j true) a' w' (free_set hfree hjun) (ready_mono hr (Ne.symm hji)) h3.1 hS ?_⟩
      rw [Array.setIfInBounds_comm _ _ hji]
      exact h3.2.2
/-- an operation that yields its value in every world that meets S, for which all of T wait -/
theorem AnyK.load {i : Nat} {oi : Oper} {v : Value} (hi : ops[i]? = some oi) (hs : Region.noSelect ops = true) (hQ : ∀ c a w, Q (.panic c) (a.put oi.dst v) w → Q (.panic c) a w) (hiT : i ∉ T)
    (hT : ∀ t ∈ T, ∃ o, ops[t]? = some o ∧ ∃ e ∈ o.after, Region.binds md e = true ∧ e.on = i) :
    ∀ (n : Nat) (l : Array Bool) (a : Act) (w : World), (∀ k ok, ops[k]? = some ok → k ≠ i → l.getD k true = false → (∀ e ∈ ok.after, Region.binds md e = true → e.on ≠ i) → oi.apart ops ok = true) →
      i ∈ Region.ready md ops l → YieldsIf P ops S oi v a → Calm T l → S w →
      AnyK P md ops Q S T n (l.setIfInBounds i true) (a.put oi.dst v) w → AnyK P md ops Q S T (n + 1) l a w := by
  have hsel := Region.noSelect_spec hs
  intro n
  induction n with
  | zero =>
    intro l a w _ hr hy _ hS H
    refine ⟨fun h => (by rw [h] at hr; cases hr), fun j hj => ?_⟩
    by_cases hji : j = i
    · subst hji; exact hy.wpOp hi hS ⟨fun _ => hS, H⟩
    · have := ready_mono hj hji
      rw [H.1] at this
      cases this
  | succ n ih =>
    intro l a w hfree hr hy hc hS H
    refine ⟨fun h => (by rw [h] at hr; cases hr), fun j hj => ?_⟩
    by_cases hji : j = i
    · subst hji; exact hy.wpOp hi hS ⟨fun _ => hS, H⟩
    · obtain ⟨hjun, oj, hoj, _⟩ := mem_ready.1 hj
      have hjT : j ∉ T := fun h => not_ready hr (hT j h) hj
      have h2 := wpOp_putIf hoj (hfree j oj hoj hji hjun (first_free hr hoj hj)) (fun cs b => hsel i oi cs b hi) (fun cs b => hsel j oj cs b hoj) hQ hy (H.2 j (ready_mono hj hji))
      refine wpOp_mono (fun a' w' h3 => ?_) h2
      have hcj : Calm T (l.setIfInBounds j true) := (calm_set hjT).2 hc
      have hS' : S w' := h3.2.1 ((calm_set hjT).2 ((calm_set hiT).2 hc))
      refine ⟨fun _ => hS', ih (l.setIfInBounds j true) a' w' (free_set hfree hjun) (ready_mono hr (Ne.symm hji)) h3.1 hcj hS' ?_⟩
      rw [Array.setIfInBounds_comm _ _ hji]
      exact h3.2.2

/-! ### The moves of a walk -/
/-- no operation of T has come up, as a Bool -/
def calmB (T : List Nat) (l : Array Bool) : Bool := T.all fun t => !l.getD t true
theorem calm_of {l : Array Bool} (h : calmB T l = true) : Calm T l := fun t ht => by
  have := List.all_eq_true.1 h t ht
  simpa using this
theorem calm_not {l : Array Bool} (h : calmB T l = false) : ¬ Calm T l := fun k => by
  have : calmB T l = true := List.all_eq_true.2 fun t ht => by rw [k t ht]; rfl
  rw [this] at h; cases h
def waitsB (md : Region.Mode) (ops : Array Oper) (T : List Nat) (i : Nat) : Bool := T.all fun t => match ops[t]? with
  | some o => o.after.any fun e => Region.binds md e && e.on == i
  | none => false
theorem waits_of {i : Nat} (h : waitsB md ops T i = true) : ∀ t ∈ T, ∃ o, ops[t]? = some o ∧ ∃ e ∈ o.after, Region.binds md e = true ∧ e.on = i := fun t ht => by
  have h1 := List.all_eq_true.1 h t ht
  cases ho : ops[t]? with
  | none => rw [ho] at h1; cases h1
  | some o =>
    rw [ho] at h1
    obtain ⟨e, he, hb⟩ := Array.any_eq_true'.1 h1
    simp only [Bool.and_eq_true, beq_iff_eq] at hb
    exact ⟨o, rfl, e, he, hb.1, hb.2⟩
theorem keep_start {id : Nat} {a : Act} {w : World} (S : World → Prop) (T : List Nat) (hm : P.follows .mixedOrders = true)
    (h : AnyK P .any ops Q S T ops.size (Array.replicate ops.size false) a w.drew) : (Code.region id ops true).wp P Q a w :=
  wp_region_any hm (AnyK.any _ _ _ _ h)
theorem keep_pure (i : Nat) {oi : Oper} {v : Value} {n : Nat} {l : Array Bool} {a : Act} {w : World} (hi : ops[i]? = some oi) (hs : Region.noSelect ops = true) (hf : Region.free md ops l i = true) (hr : (Region.ready md ops l).contains i = true) (hiT : T.contains i = false)
    (hQ : ∀ c a w, Q (.panic c) (a.put oi.dst v) w → Q (.panic c) a w) (hy : Yields P ops oi v a) (hc : calmB T l = false ∨ S w)
    (h : AnyK P md ops Q S T n (l.setIfInBounds i true) (a.put oi.dst v) w) : AnyK P md ops Q S T (n + 1) l a w :=
  AnyK.pure hi hs hQ (by simpa using hiT) n l a w (Region.free_spec hi hf) (by simpa using hr) hy (fun k => hc.elim (fun e => absurd k (calm_not e)) id) h
theorem keep_load (i : Nat) {oi : Oper} {v : Value} {n : Nat} {l : Array Bool} {a : Act} {w : World} (hi : ops[i]? = some oi) (hs : Region.noSelect ops = true) (hf : Region.free md ops l i = true) (hr : (Region.ready md ops l).contains i = true) (hiT : T.contains i = false) (hT : waitsB md ops T i = true) (hc : calmB T l = true)
    (hQ : ∀ c a w, Q (.panic c) (a.put oi.dst v) w → Q (.panic c) a w) (hy : YieldsIf P ops S oi v a) (hS : S w)
    (h : AnyK P md ops Q S T n (l.setIfInBounds i true) (a.put oi.dst v) w) : AnyK P md ops Q S T (n + 1) l a w :=
  AnyK.load hi hs hQ (by simpa using hiT) (waits_of hT) n l a w (Region.free_spec hi hf) (by simpa using hr) hy (calm_of hc) hS h
theorem keep_done {l : Array Bool} {a : Act} {w : World} {n : Nat} (hr : Region.ready md ops l = []) (h : Q .normal a w) : AnyK P md ops Q S T n l a w := by
  cases n with
  | zero => exact ⟨hr, h⟩
  | succ n => exact ⟨fun _ => h, by rw [hr]; simp⟩
theorem keep_op {i : Nat} {o : Oper} {n : Nat} {l : Array Bool} {a : Act} {w : World} (ho : ops[i]? = some o)
    (h : ∀ K : Act → World → Prop, (∀ a' w', (Calm T (l.setIfInBounds i true) → S w') → AnyK P md ops Q S T n (l.setIfInBounds i true) a' w' → K a' w') → if Region.wanted o (yielded ops a.tmps) = true then Oper.wp P o a w K Q else K (a.put o.dst undef) w) :
    wpOp P ops Q i (fun a' w' => (Calm T (l.setIfInBounds i true) → S w') ∧ AnyK P md ops Q S T n (l.setIfInBounds i true) a' w') a w := by
  have h1 := h (fun a' w' => (Calm T (l.setIfInBounds i true) → S w') ∧ AnyK P md ops Q S T n (l.setIfInBounds i true) a' w') (fun a' w' hS hA => ⟨hS, hA⟩)
  unfold wpOp
  simp only [ho]
  split
  · rename_i hw
    rw [if_pos hw] at h1
    exact .inl h1
  · rename_i hw
    rw [if_neg hw] at h1
    exact h1
/-- only number i may come up -/
theorem keep_one (i : Nat) {o : Oper} {n : Nat} {l : Array Bool} {a : Act} {w : World} (hr : Region.ready md ops l = [i]) (ho : ops[i]? = some o)
    (h : ∀ K : Act → World → Prop, (∀ a' w', (Calm T (l.setIfInBounds i true) → S w') → AnyK P md ops Q S T n (l.setIfInBounds i true) a' w' → K a' w') → if Region.wanted o (yielded ops a.tmps) = true then Oper.wp P o a w K Q else K (a.put o.dst undef) w) : AnyK P md ops Q S T (n + 1) l a w := by
  refine ⟨fun e => ?_, fun j hj => ?_⟩
  · rw [hr] at e; cases e
  · rw [hr] at hj
    obtain rfl : j = i := by simpa using hj
    exact keep_op ho h
/-- number i or number j may come up -/
theorem keep_two (i j : Nat) {o o' : Oper} {n : Nat} {l : Array Bool} {a : Act} {w : World} (hr : Region.ready md ops l = [i, j]) (ho : ops[i]? = some o) (ho' : ops[j]? = some o')
    (h : ∀ K : Act → World → Prop, (∀ a' w', (Calm T (l.setIfInBounds i true) → S w') → AnyK P md ops Q S T n (l.setIfInBounds i true) a' w' → K a' w') → if Region.wanted o (yielded ops a.tmps) = true then Oper.wp P o a w K Q else K (a.put o.dst undef) w)
    (h' : ∀ K : Act → World → Prop, (∀ a' w', (Calm T (l.setIfInBounds j true) → S w') → AnyK P md ops Q S T n (l.setIfInBounds j true) a' w' → K a' w') → if Region.wanted o' (yielded ops a.tmps) = true then Oper.wp P o' a w K Q else K (a.put o'.dst undef) w) : AnyK P md ops Q S T (n + 1) l a w := by
  refine ⟨fun e => ?_, fun k hk => ?_⟩
  · rw [hr] at e; cases e
  · rw [hr] at hk
    have : k = i ∨ k = j := by simpa using hk
    rcases this with rfl | rfl
    · exact keep_op ho h
    · exact keep_op ho' h'
end

/-! ### The moves of a walk -/
end Go.Proofs.YtdbahiepihkagaaGreatDoor
namespace Go.Proofs.YtdbahiepihkagaaGreatDoor
open Go.RowKit Go.Deep

def lenV : Value → Nat
  | .slice _ l _ => l
  | _ => 0
set_option linter.unusedVariables false
set_option linter.unusedSimpArgs false
set_option maxRecDepth 100000 in
set_option maxHeartbeats 2000000 in
theorem levelsR_any (a : Option Addr) (c : Nat) (xs : List (Int × Int)) (w : World) (hX : LinksAt w a xs) (hn : xs.length ≤ 1000) :
    Calls Tryz.prog 143 #[.slice a xs.length c] w fun e w' => e = .returned (.tuple #[.int .i64 (levF xs).1, .int .i64 (levF xs).2]) ∧ Below w.heap.size w w' := by
  have HX := Lib.hid hX
  obtain ⟨m, hm⟩ : ∃ m, m = xs.length := ⟨_, rfl⟩
  have HM := Lib.hid hm
  rw [← hm] at hn ⊢
  clear hm hX
  obtain ⟨i0, hi, hz0, hz1, hz2⟩ := info_parts infoInt
  obtain ⟨j0, hj, hy0, hy1, hy2⟩ := info_parts infoBool
  go_enter Tryz.func143, Tryz.ntmps143
  go_wp2
  go_loopw [4, 5, 6, 7, 8] (fun td tn tl to ti wr => ∃ (i d n : Nat) (S : List (Int × Bool)) (a1 : Option Addr) (c1 : Nat) (a2 : Option Addr) (c2 : Nat), td = .int .i64 d ∧ tn = .int .i64 n ∧ tl = .slice a1 S.length c1 ∧ to = .slice a2 S.length c2 ∧ ti = .int .i64 i ∧ i ≤ m ∧ S.length ≤ i ∧ d ≤ i ∧ n ≤ i ∧ Low i S ∧ levG (xs.drop i) S d n = levF xs ∧ Stk w.heap.size wr (.slice a1 S.length c1) (.slice a2 S.length c2) S ∧ Below w.heap.size w wr) (fun _ _ _ _ t _ => m - (intOf t).toNat)
  case atStart => exact ⟨0, 0, 0, [], none, 0, none, 0, rfl, rfl, rfl, rfl, rfl, Nat.zero_le _, Nat.le_refl _, Nat.le_refl _, Nat.le_refl _, (fun x hx => by cases hx), rfl, Stk.nil _ _, by first | exact Below.refl _ _ | exact belDraws (Below.refl _ _) _⟩
  case round =>
    obtain ⟨i, d, n, S, a1, c1, a2, c2, rfl, rfl, rfl, rfl, rfl, him, hSi, hdi, hni, hlow, hlev, hstk, hbr⟩ := hrel
    have HLow := Lib.hid hlow
    have HLev := Lib.hid hlev
    clear hlow hlev
    by_cases hlt : i < m
    · obtain ⟨b, o, rfl, hb, hc⟩ := HX.out.row (by rw [← HM.out]; omega)
      have hxl : i < xs.length := by rw [← HM.out]; exact hlt
      have hce := (hc i hxl).1
      have HCE : Hid (∀ W, Below w.heap.size w W → W.cell? ⟨b, o + i * 2, none⟩ = some (.int .i64 (toA xs i))) := Lib.hid (fun W h => (h.cell (p := ⟨b, o + i * 2, none⟩) hb).trans hce)
      have HNext : Hid (levG (xs.drop (i + 1)) (popF ((arF (toA xs i), aggF (toA xs i)) :: S)) (max d (S.length + 1)) (max n (insF ((arF (toA xs i), aggF (toA xs i)) :: S))) = levF xs) := Lib.hid (by rw [← HLev.out, drop_tm hxl]; rfl)
      have HLB : Hid (LowB i ((arF (toA xs i), aggF (toA xs i)) :: S)) := Lib.hid (HLow.out.push (by omega) _ _)
      clear hc hce HLev HLow
      generalize toA xs i = op at HCE HNext HLB
      obtain ⟨k, hk⟩ : ∃ k, arF op = k := ⟨_, rfl⟩
      obtain ⟨g, hg⟩ : ∃ g, aggF op = g := ⟨_, rfl⟩
      have HK := Lib.hid hk
      have HG := Lib.hid hg
      rw [hk, hg] at HNext HLB
      clear hk hg
      have hi0 : (0 : Int) ≤ i := by omega
      have hi1 : (i : Int) < m := by omega
      generalize hN : S.length = N at hSi hstk HNext
      have HN := Lib.hid hN
      clear hN
      go_wp2
      obtain ⟨W0, hW0⟩ : ∃ x, x = wr.drew := ⟨_, rfl⟩
      have hB0 : Below w.heap.size w W0 := by rw [hW0]; exact belDraws hbr 1
      have hS0 : Stk w.heap.size W0 (.slice a1 N c1) (.slice a2 N c2) S := by rw [hW0]; exact hstk.drew 1
      have HW0 := Lib.hid hW0
      clear hbr hstk hW0
      refine keep_start (fun w' => w'.cell? ⟨b, o + i * 2, none⟩ = some (.int .i64 op)) [] (by kernel_rfl) ?_
      (refine keep_pure 0 (v := ?_) rfl (by kernel_rfl) (by kernel_rfl) (by kernel_rfl) (by kernel_rfl) (fun _ _ _ h => h) (Or.inl ⟨by rfl, ?_⟩) (.inr (by rw [← HW0.out]; exact HCE.out _ hB0)) ?_; rotate_left 1; focus (intro _; go_simp; (try go_ints); try (with_reducible rfl)); (try simp only [Act.put, List.setIfInBounds_toArray, List.set_cons_zero, List.set_cons_succ]))
      (refine keep_pure 1 (v := ?_) rfl (by kernel_rfl) (by kernel_rfl) (by kernel_rfl) (by kernel_rfl) (fun _ _ _ h => h) (Or.inl ⟨by rfl, ?_⟩) (.inr (by rw [← HW0.out]; exact HCE.out _ hB0)) ?_; rotate_left 1; focus (intro _; go_simp; (try go_ints); try (with_reducible rfl)); (try simp only [Act.put, List.setIfInBounds_toArray, List.set_cons_zero, List.set_cons_succ]))
      (refine keep_pure 2 (v := ?_) rfl (by kernel_rfl) (by kernel_rfl) (by kernel_rfl) (by kernel_rfl) (fun _ _ _ h => h) (Or.inl ⟨by rfl, ?_⟩) (.inr (by rw [← HW0.out]; exact HCE.out _ hB0)) ?_; rotate_left 1; focus (intro _; go_simp; (try go_ints); try (with_reducible rfl)); (try simp only [Act.put, List.setIfInBounds_toArray, List.set_cons_zero, List.set_cons_succ]))
      (refine keep_pure 3 (v := ?_) rfl (by kernel_rfl) (by kernel_rfl) (by kernel_rfl) (by kernel_rfl) (fun _ _ _ h => h) (Or.inl ⟨by rfl, ?_⟩) (.inr (by rw [← HW0.out]; exact HCE.out _ hB0)) ?_; rotate_left 1; focus (intro _; go_simp; (try go_ints); try (with_reducible rfl)); (try simp only [Act.put, List.setIfInBounds_toArray, List.set_cons_zero, List.set_cons_succ]))
      (refine keep_pure 4 (v := ?_) rfl (by kernel_rfl) (by kernel_rfl) (by kernel_rfl) (by kernel_rfl) (fun _ _ _ h => h) (Or.inl ⟨by rfl, ?_⟩) (.inr (by rw [← HW0.out]; exact HCE.out _ hB0)) ?_; rotate_left 1; focus (intro _; go_simp; (try go_ints); try (with_reducible rfl)); (try simp only [Act.put, List.setIfInBounds_toArray, List.set_cons_zero, List.set_cons_succ]))
      (refine keep_pure 9 (v := ?_) rfl (by kernel_rfl) (by kernel_rfl) (by kernel_rfl) (by kernel_rfl) (fun _ _ _ h => h) (Or.inl ⟨by rfl, ?_⟩) (.inr (by rw [← HW0.out]; exact HCE.out _ hB0)) ?_; rotate_left 1; focus (intro _; go_simp; (try go_ints); try (with_reducible rfl)); (try simp only [Act.put, List.setIfInBounds_toArray, List.set_cons_zero, List.set_cons_succ]))
      (refine keep_pure 10 (v := ?_) rfl (by kernel_rfl) (by kernel_rfl) (by kernel_rfl) (by kernel_rfl) (fun _ _ _ h => h) (Or.inl ⟨by rfl, ?_⟩) (.inr (by rw [← HW0.out]; exact HCE.out _ hB0)) ?_; rotate_left 1; focus (intro _; go_simp; (try go_ints); try (with_reducible rfl)); (try simp only [Act.put, List.setIfInBounds_toArray, List.set_cons_zero, List.set_cons_succ]))
      (refine keep_pure 11 (v := ?_) rfl (by kernel_rfl) (by kernel_rfl) (by kernel_rfl) (by kernel_rfl) (fun _ _ _ h => h) (Or.inl ⟨by rfl, ?_⟩) (.inr (by rw [← HW0.out]; exact HCE.out _ hB0)) ?_; rotate_left 1; focus (intro _; go_simp; (try go_ints); try (with_reducible rfl)); (try simp only [Act.put, List.setIfInBounds_toArray, List.set_cons_zero, List.set_cons_succ]))
      (refine keep_pure 12 (v := ?_) rfl (by kernel_rfl) (by kernel_rfl) (by kernel_rfl) (by kernel_rfl) (fun _ _ _ h => h) (Or.inl ⟨by rfl, ?_⟩) (.inr (by rw [← HW0.out]; exact HCE.out _ hB0)) ?_; rotate_left 1; focus (intro _; go_simp; (try go_ints); try (with_reducible rfl)); (try simp only [Act.put, List.setIfInBounds_toArray, List.set_cons_zero, List.set_cons_succ]))
      (refine keep_pure 13 (v := ?_) rfl (by kernel_rfl) (by kernel_rfl) (by kernel_rfl) (by kernel_rfl) (fun _ _ _ h => h) (Or.inl ⟨by rfl, ?_⟩) (.inr (by rw [← HW0.out]; exact HCE.out _ hB0)) ?_; rotate_left 1; focus (intro _; go_simp; (try go_ints); try (with_reducible rfl)); (try simp only [Act.put, List.setIfInBounds_toArray, List.set_cons_zero, List.set_cons_succ]))
      (refine keep_load 5 (v := ?_) rfl (by kernel_rfl) (by kernel_rfl) (by kernel_rfl) (by kernel_rfl) (by kernel_rfl) (by kernel_rfl) (fun _ _ _ h => h) (Or.inl ⟨by rfl, ?_⟩) (by rw [← HW0.out]; exact HCE.out _ hB0) ?_; rotate_left 1; focus (intro _ hSw; (first | (obtain ⟨_, _, _, _, _⟩ := hSw) | (obtain ⟨_, _, _, _⟩ := hSw) | (obtain ⟨_, _, _⟩ := hSw) | (obtain ⟨_, _⟩ := hSw) | skip); go_simp; (try go_ints); try (with_reducible rfl)); (try simp only [Act.put, List.setIfInBounds_toArray, List.set_cons_zero, List.set_cons_succ]))
      (refine keep_load 14 (v := ?_) rfl (by kernel_rfl) (by kernel_rfl) (by kernel_rfl) (by kernel_rfl) (by kernel_rfl) (by kernel_rfl) (fun _ _ _ h => h) (Or.inl ⟨by rfl, ?_⟩) (by rw [← HW0.out]; exact HCE.out _ hB0) ?_; rotate_left 1; focus (intro _ hSw; (first | (obtain ⟨_, _, _, _, _⟩ := hSw) | (obtain ⟨_, _, _, _⟩ := hSw) | (obtain ⟨_, _, _⟩ := hSw) | (obtain ⟨_, _⟩ := hSw) | skip); go_simp; (try go_ints); try (with_reducible rfl)); (try simp only [Act.put, List.setIfInBounds_toArray, List.set_cons_zero, List.set_cons_succ]))
      (refine keep_one 6 (by kernel_rfl) rfl ?_)
      intro K hK
      go_simp
      refine (arityR_any op _).mono ?_
      rintro e w1 ⟨rfl, rfl⟩
      rw [HK.out, ← HW0.out]
      refine hK _ _ (fun h => (by exact HCE.out _ hB0)) ?_
      clear hK K
      (try simp only [Act.put, List.setIfInBounds_toArray, List.set_cons_zero, List.set_cons_succ])
      (refine keep_one 7 (by kernel_rfl) rfl ?_)
      intro K hK
      go_simp
      obtain ⟨W1, hW1⟩ : ∃ x, x = W0.alloc (.cells #[.int .i64 k] 3) := ⟨_, rfl⟩
      have hB1 : Below w.heap.size w W1 := by rw [hW1]; exact hB0.alloc hB0.size _
      have hS1 : Stk w.heap.size W1 (.slice a1 N c1) (.slice a2 N c2) S := by rw [hW1]; exact hS0.far (World.grownBy_alloc _ _ _)
      have hn1 : W1.cell? ⟨W0.heap.size, 0, none⟩ = some (.int .i64 k) := by rw [hW1, World.cell?_alloc_new]; rfl
      rw [← hW1]
      clear hW1
      refine hK _ _ (fun h => (by exact HCE.out _ hB1)) ?_
      clear hK K
      (try simp only [Act.put, List.setIfInBounds_toArray, List.set_cons_zero, List.set_cons_succ])
      (refine keep_one 8 (by kernel_rfl) rfl ?_)
      intro K hK
      refine step_append_lies _ rfl (.tmp 17) (.tmp 24) 137 rfl w.heap.size 3 i0 (.int .i64 0) 1 8 Tryz.underlying137 hi hz0 hz1 hz2 rfl (by decide) (.slice a1 N c1) N (lefts S) rfl (by have h := hS1.o1; rw [HN.out] at h; exact h) ⟨W0.heap.size, 0, none⟩ 1 1 [.int .i64 k] rfl rfl (fun j u hj => by match j, hj with | 0, hj => simp at hj; subst hj; rw [add_none]; exact hn1 | j + 1, hj => simp at hj) (by simp [Value.oneCell']) (by decide) (by unfold maxLen; omega) (by omega) hB1.size _ rfl ?_
      intro g1 d1 W2 ho2 hg2 hat2 hlt2
      have hM2 := hS1.app1 (l := k) (g := g1) (cap := d1) (by rw [HN.out]; exact ho2) hg2 hat2
      have hB2 : Below w.heap.size w W2 := hB1.grown hg2 hB1.size (fun q hq => (World.ownsRow.lt hS1.o1 q hq).1)
      clear ho2 hg2 hat2 hlt2 hn1
      refine hK _ _ (fun h => (by exact HCE.out _ hB2)) ?_
      clear hK K
      (try simp only [Act.put, List.setIfInBounds_toArray, List.set_cons_zero, List.set_cons_succ])
      (refine keep_one 15 (by kernel_rfl) rfl ?_)
      intro K hK
      go_simp
      refine (aggR_any op _).mono ?_
      rintro e w1 ⟨rfl, hw1⟩
      rw [HG.out, hw1]
      clear hw1
      refine hK _ _ (fun h => (by exact HCE.out _ hB2)) ?_
      clear hK K
      (try simp only [Act.put, List.setIfInBounds_toArray, List.set_cons_zero, List.set_cons_succ])
      (refine keep_one 16 (by kernel_rfl) rfl ?_)
      intro K hK
      go_simp
      obtain ⟨W3, hW3⟩ : ∃ x, x = W2.alloc (.cells #[.bool g] 4) := ⟨_, rfl⟩
      have hB3 : Below w.heap.size w W3 := by rw [hW3]; exact hB2.alloc hB2.size _
      have hM3 := hM2.far (w' := W3) (by rw [hW3]; exact World.grownBy_alloc _ _ _)
      have hn3 : W3.cell? ⟨W2.heap.size, 0, none⟩ = some (.bool g) := by rw [hW3, World.cell?_alloc_new]; rfl
      rw [← hW3]
      clear hW3
      refine hK _ _ (fun h => (by exact HCE.out _ hB3)) ?_
      clear hK K
      (try simp only [Act.put, List.setIfInBounds_toArray, List.set_cons_zero, List.set_cons_succ])
      (refine keep_one 17 (by kernel_rfl) rfl ?_)
      intro K hK
      refine step_append_lies _ rfl (.tmp 26) (.tmp 33) 170 rfl w.heap.size 4 j0 (.bool false) 1 1 Tryz.underlying170 hj hy0 hy1 hy2 rfl (by decide) (.slice a2 N c2) N (opens S) rfl (by have h := hM3.o2; rw [HN.out] at h; exact h) ⟨W2.heap.size, 0, none⟩ 1 1 [.bool g] rfl rfl (fun j u hj => by match j, hj with | 0, hj => simp at hj; subst hj; rw [add_none]; exact hn3 | j + 1, hj => simp at hj) (by simp [Value.oneCell']) (by decide) (by unfold maxLen; omega) (by omega) hB3.size _ rfl ?_
      intro g2 d2 W4 ho4 hg4 hat4 hlt4
      have hS4 := hM3.app2 (o := g) (g := g2) (cap := d2) (by rw [HN.out]; exact ho4) hg4 hat4
      have hB4 : Below w.heap.size w W4 := hB3.grown hg4 hB3.size (fun q hq => (World.ownsRow.lt hM3.o2 q hq).1)
      clear ho4 hg4 hat4 hlt4 hn3
      refine hK _ _ (fun h => (by exact HCE.out _ hB4)) ?_
      clear hK K
      (try simp only [Act.put, List.setIfInBounds_toArray, List.set_cons_zero, List.set_cons_succ])
      (refine keep_pure 18 (v := ?_) rfl (by kernel_rfl) (by kernel_rfl) (by kernel_rfl) (by kernel_rfl) (fun _ _ _ h => h) (Or.inl ⟨by rfl, ?_⟩) (.inr (by exact HCE.out _ hB4)) ?_; rotate_left 1; focus (intro _; go_simp; (try go_ints); try (with_reducible rfl)); (try simp only [Act.put, List.setIfInBounds_toArray, List.set_cons_zero, List.set_cons_succ]))
      (refine keep_pure 19 (v := ?_) rfl (by kernel_rfl) (by kernel_rfl) (by kernel_rfl) (by kernel_rfl) (fun _ _ _ h => h) (Or.inl ⟨by rfl, ?_⟩) (.inr (by exact HCE.out _ hB4)) ?_; rotate_left 1; focus (intro _; go_simp; (try go_ints); try (with_reducible rfl)); (try simp only [Act.put, List.setIfInBounds_toArray, List.set_cons_zero, List.set_cons_succ]))
      (refine keep_done (by kernel_rfl) ?_)
      clear hS0 hB0 hS1 hB1 hM2 hB2 hM3 hB3 HW0
      obtain ⟨S1, hS1d⟩ : ∃ S1, S1 = (k, g) :: S := ⟨_, rfl⟩
      have hS1l : S1.length = N + 1 := by rw [hS1d, ← HN.out]; rfl
      rw [HN.out] at hS4
      rw [← hS1d] at HNext HLB hS4
      have hMi : N + 1 ≤ i + 1 := by omega
      generalize hMd : N + 1 = M at hS1l hS4 HNext hMi ⊢
      clear hMd
      have HBlk : w.heap.size ≤ g1 := (World.ownsRow.lt hS4.o1 g1 rfl).1
      have HS1l := Lib.hid hS1l
      have HS4 := Lib.hid hS4
      have HB4 := Lib.hid hB4
      clear hS1d hS1l hS4 hB4
      go_wp2
      go_loopw [9, 10] (fun s t wq => ∃ q : Nat, s = .int .i64 ((S1.reverse.take q).countP (·.2) : Nat) ∧ t = .int .i64 q ∧ q ≤ M ∧ Stk w.heap.size wq (.slice (some ⟨g1, 0, none⟩) (M) d1) (.slice (some ⟨g2, 0, none⟩) (M) d2) S1 ∧ Below w.heap.size w wq) (fun _ t _ => M - (intOf t).toNat)
      case atStart => exact ⟨0, rfl, rfl, Nat.zero_le _, HS4.out, HB4.out⟩
      case round =>
        obtain ⟨q, rfl, rfl, hq, hsq, hbq⟩ := hrel
        have HSq := Lib.hid hsq
        have HBq := Lib.hid hbq
        clear hsq hbq
        by_cases hql : q < M
        · obtain ⟨oq, ho1, ho2⟩ := HSq.out.openAt HS1l.out.symm (k := q) (by rw [HS1l.out]; exact hql)
          have hcl : (S1.reverse.take q).countP (·.2) ≤ q := Nat.le_trans List.countP_le_length (by simp; omega)
          have HO2 := Lib.hid ho2
          generalize (S1.reverse.take q).countP (·.2) = y at hcl HO2 ⊢
          clear ho2
          have q0 : (0 : Int) ≤ q := by omega
          have q1 : (q : Int) < M := by omega
          cases oq with
          | true =>
            go_wp2
            go_roundw
            case rel => exact ⟨q + 1, by rw [HO2.out]; go_num, by go_num, by omega, HSq.out, HBq.out⟩
            case measure => simp [intOf]; omega
          | false =>
            go_wp2
            go_roundw
            case rel => exact ⟨q + 1, by rw [HO2.out]; go_num, by go_num, by omega, HSq.out, HBq.out⟩
            case measure => simp [intOf]; omega
        · obtain rfl : M = q := by omega
          have hins : (S1.reverse.take (M)).countP (·.2) = insF S1 := by
            rw [List.take_of_length_le (by rw [List.length_reverse, HS1l.out]; omega), insF, List.countP_reverse]
          have hil := insF_le S1
          rw [HS1l.out] at hil
          generalize (S1.reverse.take (M)).countP (·.2) = y at hins ⊢
          subst hins
          have HNx : Hid (levG (xs.drop (i + 1)) (popF S1) (max d (M)) (max n (insF S1)) = levF xs) := HNext
          generalize insF S1 = y at hil HNx ⊢
          clear HNext HS4 HB4
          have hyi : y ≤ i + 1 := by omega
          have hds : (d < M ∧ max d (M) = M) ∨ (M ≤ d ∧ max d (M) = d) := by omega
          have hns : (n < y ∧ max n y = y) ∨ (y ≤ n ∧ max n y = n) := by omega
          rcases hds with ⟨hD, eD⟩ | ⟨hD, eD⟩
          all_goals rcases hns with ⟨hE, eE⟩ | ⟨hE, eE⟩
          · rw [eD, eE] at HNx
            clear eD eE
            have hDi : (d : Int) < M := by omega
            have hEi : (n : Int) < y := by omega
            go_wp2
            go_loopw [6, 7] (fun tl to wq => ∃ (S' : List (Int × Bool)), tl = .slice (some ⟨g1, 0, none⟩) S'.length d1 ∧ to = .slice (some ⟨g2, 0, none⟩) S'.length d2 ∧ S'.length ≤ M ∧ popF S' = popF S1 ∧ LowB i S' ∧ Stk w.heap.size wq (.slice (some ⟨g1, 0, none⟩) S'.length d1) (.slice (some ⟨g2, 0, none⟩) S'.length d2) S' ∧ Below w.heap.size w wq) (fun tl _ _ => lenV tl)
            case atStart => exact ⟨S1, by rw [HS1l.out], by rw [HS1l.out], by rw [HS1l.out]; exact Nat.le_refl _, rfl, HLB.out, by rw [HS1l.out]; exact HSq.out, HBq.out⟩
            case round =>
              obtain ⟨S', rfl, rfl, hsl, hpop, hlb, hsk, hbk⟩ := hrel
              have HPop := Lib.hid hpop
              have HLb := Lib.hid hlb
              have HSk := Lib.hid hsk
              have HBk := Lib.hid hbk
              have HSk1 : w.heap.size ≤ g1 := HBlk
              clear hpop hlb hsk hbk
              cases S' with
              | nil =>
                have hnl : ([] : List (Int × Bool)).length = 0 := rfl
                rw [hnl]
                have HF : Hid (popF S1 = []) := Lib.hid (by rw [← HPop.out]; rfl)
                rw [HF.out] at HNx
                clear hnl
                go_wp2
                go_roundw
                case rel => exact ⟨i + 1, _, _, [], _, _, _, _, by first | rfl | go_num, by first | rfl | go_num, rfl, rfl, by go_num, by omega, by simp, by omega, by omega, (fun x hx => by cases hx), HNx.out, HSk.out, HBk.out⟩
                case measure => simp [intOf]; omega
              | cons x r =>
                obtain ⟨l, ob⟩ := x
                have htop := HSk.out.top rfl
                by_cases hl0 : l = 0
                · subst hl0
                  have hnx : popF (decF r) = popF S1 := (popF_next (o := ob) rfl).trans HPop.out
                  have hlb2 := HLb.out.next
                  have hsk2 := HSk.out.pop rfl
                  obtain ⟨hk1, hk2⟩ := row_cap HSk.out.o1
                  obtain ⟨hk3, hk4⟩ := row_cap HSk.out.o2
                  unfold maxLen at hk2 hk4
                  rw [List.length_cons] at hk1 hk3
                  have HNX := Lib.hid hnx
                  have HLB2 := Lib.hid hlb2
                  have HSK2 := Lib.hid hsk2
                  have HLB0 := HLb
                  clear hnx hlb2 hsk2 HLb HPop HSk HNx
                  cases r with
                  | nil =>
                    have h1 : ((0, ob) :: ([] : List (Int × Bool))).length = 1 := rfl
                    rw [h1]
                    have t1 := htop.1
                    rw [show ([] : List (Int × Bool)).length = 0 from rfl] at t1
                    rw [show ([] : List (Int × Bool)).length = 0 from rfl] at hk1 hk3
                    clear htop h1
                    go_wp2
                    go_quiet (fail)
                    go_wp2
                    go_roundw
                    case rel => exact ⟨[], rfl, rfl, by simp, HNX.out, HLB2.out, by first | exact HSK2.out | exact HSK2.out.drew _, by first | exact HBk.out | exact belDraws HBk.out _⟩
                    case measure => simp [lenV]
                  | cons z r2 =>
                    obtain ⟨l2, o2⟩ := z
                    have h1 : ((0, ob) :: (l2, o2) :: r2).length = r2.length + 2 := rfl
                    have h2 : ((l2, o2) :: r2).length = r2.length + 1 := rfl
                    have t1 := htop.1
                    rw [h2] at t1
                    obtain ⟨t2, t3⟩ := HSK2.out.top rfl
                    have hd := fun q => (HSK2.out.drew q).dec rfl
                    have hlb3 := HLB0.out.2 (l2, o2) (by simp)
                    dsimp only at hlb3
                    rw [h1] at hsl
                    rw [h1]
                    simp only [h2] at hd
                    have HD := Lib.hid hd
                    have hbd := fun q => (belDraws HBk.out q).setCell (p := ⟨g1, r2.length, none⟩) HSk1 (.int .i64 (l2 - 1))
                    have HBd := Lib.hid hbd
                    clear htop h1 hd hbd HSK2
                    obtain ⟨R, hR⟩ : ∃ R, R = r2.length := ⟨_, rfl⟩
                    have HR := Lib.hid hR
                    rw [h2] at hk1 hk3
                    rw [← hR] at t1 t2 t3 hsl HD HBd hk1 hk3 ⊢
                    clear hR h2
                    go_wp2
                    go_quiet (fail)
                    go_wp2
                    go_roundw
                    case rel => exact ⟨(l2 - 1, o2) :: r2, by rw [HR.out]; rfl, by rw [HR.out]; rfl, by rw [List.length_cons, ← HR.out]; omega, HNX.out, HLB2.out, by rw [List.length_cons, ← HR.out]; exact HD.out _, HBd.out _⟩
                    case measure => simp [lenV]
                · have HF : Hid (popF S1 = (l, ob) :: r) := Lib.hid (by rw [← HPop.out]; exact popF_done hl0)
                  rw [HF.out] at HNx
                  have hq : (l == 0) = false := by simpa using hl0
                  have h1 : ((l, ob) :: r).length = r.length + 1 := rfl
                  have t1 := htop.1
                  rw [h1] at HSk hsl
                  rw [h1]
                  have HLow2 : Hid (Low ((i + 1 : Nat) : Int) ((l, ob) :: r)) := Lib.hid (by have := HLb.out.low; rwa [Int.natCast_add, Int.natCast_one])
                  obtain ⟨R, hR⟩ : ∃ R, R = r.length := ⟨_, rfl⟩
                  have HR := Lib.hid hR
                  rw [← hR] at t1 HSk hsl ⊢
                  clear htop h1 hR hl0 HLb HPop
                  go_wp2
                  go_roundw
                  case rel => exact ⟨i + 1, _, _, (l, ob) :: r, _, _, _, _, by first | rfl | go_num, by first | rfl | go_num, by rw [HR.out]; rfl, by rw [HR.out]; rfl, by go_num, by omega, by rw [List.length_cons, ← HR.out]; omega, by omega, by omega, HLow2.out, HNx.out, by rw [List.length_cons, ← HR.out]; exact HSk.out, HBk.out⟩
                  case measure => simp [intOf]; omega
          · rw [eD, eE] at HNx
            clear eD eE
            have hDi : (d : Int) < M := by omega
            have hEi : (y : Int) ≤ n := by omega
            go_wp2
            go_loopw [6, 7] (fun tl to wq => ∃ (S' : List (Int × Bool)), tl = .slice (some ⟨g1, 0, none⟩) S'.length d1 ∧ to = .slice (some ⟨g2, 0, none⟩) S'.length d2 ∧ S'.length ≤ M ∧ popF S' = popF S1 ∧ LowB i S' ∧ Stk w.heap.size wq (.slice (some ⟨g1, 0, none⟩) S'.length d1) (.slice (some ⟨g2, 0, none⟩) S'.length d2) S' ∧ Below w.heap.size w wq) (fun tl _ _ => lenV tl)
            case atStart => exact ⟨S1, by rw [HS1l.out], by rw [HS1l.out], by rw [HS1l.out]; exact Nat.le_refl _, rfl, HLB.out, by rw [HS1l.out]; exact HSq.out, HBq.out⟩
            case round =>
              obtain ⟨S', rfl, rfl, hsl, hpop, hlb, hsk, hbk⟩ := hrel
              have HPop := Lib.hid hpop
              have HLb := Lib.hid hlb
              have HSk := Lib.hid hsk
              have HBk := Lib.hid hbk
              have HSk1 : w.heap.size ≤ g1 := HBlk
              clear hpop hlb hsk hbk
              cases S' with
              | nil =>
                have hnl : ([] : List (Int × Bool)).length = 0 := rfl
                rw [hnl]
                have HF : Hid (popF S1 = []) := Lib.hid (by rw [← HPop.out]; rfl)
                rw [HF.out] at HNx
                clear hnl
                go_wp2
                go_roundw
                case rel => exact ⟨i + 1, _, _, [], _, _, _, _, by first | rfl | go_num, by first | rfl | go_num, rfl, rfl, by go_num, by omega, by simp, by omega, by omega, (fun x hx => by cases hx), HNx.out, HSk.out, HBk.out⟩
                case measure => simp [intOf]; omega
              | cons x r =>
                obtain ⟨l, ob⟩ := x
                have htop := HSk.out.top rfl
                by_cases hl0 : l = 0
                · subst hl0
                  have hnx : popF (decF r) = popF S1 := (popF_next (o := ob) rfl).trans HPop.out
                  have hlb2 := HLb.out.next
                  have hsk2 := HSk.out.pop rfl
                  obtain ⟨hk1, hk2⟩ := row_cap HSk.out.o1
                  obtain ⟨hk3, hk4⟩ := row_cap HSk.out.o2
                  unfold maxLen at hk2 hk4
                  rw [List.length_cons] at hk1 hk3
                  have HNX := Lib.hid hnx
                  have HLB2 := Lib.hid hlb2
                  have HSK2 := Lib.hid hsk2
                  have HLB0 := HLb
                  clear hnx hlb2 hsk2 HLb HPop HSk HNx
                  cases r with
                  | nil =>
                    have h1 : ((0, ob) :: ([] : List (Int × Bool))).length = 1 := rfl
                    rw [h1]
                    have t1 := htop.1
                    rw [show ([] : List (Int × Bool)).length = 0 from rfl] at t1
                    rw [show ([] : List (Int × Bool)).length = 0 from rfl] at hk1 hk3
                    clear htop h1
                    go_wp2
                    go_quiet (fail)
                    go_wp2
                    go_roundw
                    case rel => exact ⟨[], rfl, rfl, by simp, HNX.out, HLB2.out, by first | exact HSK2.out | exact HSK2.out.drew _, by first | exact HBk.out | exact belDraws HBk.out _⟩
                    case measure => simp [lenV]
                  | cons z r2 =>
                    obtain ⟨l2, o2⟩ := z
                    have h1 : ((0, ob) :: (l2, o2) :: r2).length = r2.length + 2 := rfl
                    have h2 : ((l2, o2) :: r2).length = r2.length + 1 := rfl
                    have t1 := htop.1
                    rw [h2] at t1
                    obtain ⟨t2, t3⟩ := HSK2.out.top rfl
                    have hd := fun q => (HSK2.out.drew q).dec rfl
                    have hlb3 := HLB0.out.2 (l2, o2) (by simp)
                    dsimp only at hlb3
                    rw [h1] at hsl
                    rw [h1]
                    simp only [h2] at hd
                    have HD := Lib.hid hd
                    have hbd := fun q => (belDraws HBk.out q).setCell (p := ⟨g1, r2.length, none⟩) HSk1 (.int .i64 (l2 - 1))
                    have HBd := Lib.hid hbd
                    clear htop h1 hd hbd HSK2
                    obtain ⟨R, hR⟩ : ∃ R, R = r2.length := ⟨_, rfl⟩
                    have HR := Lib.hid hR
                    rw [h2] at hk1 hk3
                    rw [← hR] at t1 t2 t3 hsl HD HBd hk1 hk3 ⊢
                    clear hR h2
                    go_wp2
                    go_quiet (fail)
                    go_wp2
                    go_roundw
                    case rel => exact ⟨(l2 - 1, o2) :: r2, by rw [HR.out]; rfl, by rw [HR.out]; rfl, by rw [List.length_cons, ← HR.out]; omega, HNX.out, HLB2.out, by rw [List.length_cons, ← HR.out]; exact HD.out _, HBd.out _⟩
                    case measure => simp [lenV]
                · have HF : Hid (popF S1 = (l, ob) :: r) := Lib.hid (by rw [← HPop.out]; exact popF_done hl0)
                  rw [HF.out] at HNx
                  have hq : (l == 0) = false := by simpa using hl0
                  have h1 : ((l, ob) :: r).length = r.length + 1 := rfl
                  have t1 := htop.1
                  rw [h1] at HSk hsl
                  rw [h1]
                  have HLow2 : Hid (Low ((i + 1 : Nat) : Int) ((l, ob) :: r)) := Lib.hid (by have := HLb.out.low; rwa [Int.natCast_add, Int.natCast_one])
                  obtain ⟨R, hR⟩ : ∃ R, R = r.length := ⟨_, rfl⟩
                  have HR := Lib.hid hR
                  rw [← hR] at t1 HSk hsl ⊢
                  clear htop h1 hR hl0 HLb HPop
                  go_wp2
                  go_roundw
                  case rel => exact ⟨i + 1, _, _, (l, ob) :: r, _, _, _, _, by first | rfl | go_num, by first | rfl | go_num, by rw [HR.out]; rfl, by rw [HR.out]; rfl, by go_num, by omega, by rw [List.length_cons, ← HR.out]; omega, by omega, by omega, HLow2.out, HNx.out, by rw [List.length_cons, ← HR.out]; exact HSk.out, HBk.out⟩
                  case measure => simp [intOf]; omega
          · rw [eD, eE] at HNx
            clear eD eE
            have hDi : (M : Int) ≤ d := by omega
            have hEi : (n : Int) < y := by omega
            go_wp2
            go_loopw [6, 7] (fun tl to wq => ∃ (S' : List (Int × Bool)), tl = .slice (some ⟨g1, 0, none⟩) S'.length d1 ∧ to = .slice (some ⟨g2, 0, none⟩) S'.length d2 ∧ S'.length ≤ M ∧ popF S' = popF S1 ∧ LowB i S' ∧ Stk w.heap.size wq (.slice (some ⟨g1, 0, none⟩) S'.length d1) (.slice (some ⟨g2, 0, none⟩) S'.length d2) S' ∧ Below w.heap.size w wq) (fun tl _ _ => lenV tl)
            case atStart => exact ⟨S1, by rw [HS1l.out], by rw [HS1l.out], by rw [HS1l.out]; exact Nat.le_refl _, rfl, HLB.out, by rw [HS1l.out]; exact HSq.out, HBq.out⟩
            case round =>
              obtain ⟨S', rfl, rfl, hsl, hpop, hlb, hsk, hbk⟩ := hrel
              have HPop := Lib.hid hpop
              have HLb := Lib.hid hlb
              have HSk := Lib.hid hsk
              have HBk := Lib.hid hbk
              have HSk1 : w.heap.size ≤ g1 := HBlk
              clear hpop hlb hsk hbk
              cases S' with
              | nil =>
                have hnl : ([] : List (Int × Bool)).length = 0 := rfl
                rw [hnl]
                have HF : Hid (popF S1 = []) := Lib.hid (by rw [← HPop.out]; rfl)
                rw [HF.out] at HNx
                clear hnl
                go_wp2
                go_roundw
                case rel => exact ⟨i + 1, _, _, [], _, _, _, _, by first | rfl | go_num, by first | rfl | go_num, rfl, rfl, by go_num, by omega, by simp, by omega, by omega, (fun x hx => by cases hx), HNx.out, HSk.out, HBk.out⟩
                case measure => simp [intOf]; omega
              | cons x r =>
                obtain ⟨l, ob⟩ := x
                have htop := HSk.out.top rfl
                by_cases hl0 : l = 0
                · subst hl0
                  have hnx : popF (decF r) = popF S1 := (popF_next (o := ob) rfl).trans HPop.out
                  have hlb2 := HLb.out.next
                  have hsk2 := HSk.out.pop rfl
                  obtain ⟨hk1, hk2⟩ := row_cap HSk.out.o1
                  obtain ⟨hk3, hk4⟩ := row_cap HSk.out.o2
                  unfold maxLen at hk2 hk4
                  rw [List.length_cons] at hk1 hk3
                  have HNX := Lib.hid hnx
                  have HLB2 := Lib.hid hlb2
                  have HSK2 := Lib.hid hsk2
                  have HLB0 := HLb
                  clear hnx hlb2 hsk2 HLb HPop HSk HNx
                  cases r with
                  | nil =>
                    have h1 : ((0, ob) :: ([] : List (Int × Bool))).length = 1 := rfl
                    rw [h1]
                    have t1 := htop.1
                    rw [show ([] : List (Int × Bool)).length = 0 from rfl] at t1
                    rw [show ([] : List (Int × Bool)).length = 0 from rfl] at hk1 hk3
                    clear htop h1
                    go_wp2
                    go_quiet (fail)
                    go_wp2
                    go_roundw
                    case rel => exact ⟨[], rfl, rfl, by simp, HNX.out, HLB2.out, by first | exact HSK2.out | exact HSK2.out.drew _, by first | exact HBk.out | exact belDraws HBk.out _⟩
                    case measure => simp [lenV]
                  | cons z r2 =>
                    obtain ⟨l2, o2⟩ := z
                    have h1 : ((0, ob) :: (l2, o2) :: r2).length = r2.length + 2 := rfl
                    have h2 : ((l2, o2) :: r2).length = r2.length + 1 := rfl
                    have t1 := htop.1
                    rw [h2] at t1
                    obtain ⟨t2, t3⟩ := HSK2.out.top rfl
                    have hd := fun q => (HSK2.out.drew q).dec rfl
                    have hlb3 := HLB0.out.2 (l2, o2) (by simp)
                    dsimp only at hlb3
                    rw [h1] at hsl
                    rw [h1]
                    simp only [h2] at hd
                    have HD := Lib.hid hd
                    have hbd := fun q => (belDraws HBk.out q).setCell (p := ⟨g1, r2.length, none⟩) HSk1 (.int .i64 (l2 - 1))
                    have HBd := Lib.hid hbd
                    clear htop h1 hd hbd HSK2
                    obtain ⟨R, hR⟩ : ∃ R, R = r2.length := ⟨_, rfl⟩
                    have HR := Lib.hid hR
                    rw [h2] at hk1 hk3
                    rw [← hR] at t1 t2 t3 hsl HD HBd hk1 hk3 ⊢
                    clear hR h2
                    go_wp2
                    go_quiet (fail)
                    go_wp2
                    go_roundw
                    case rel => exact ⟨(l2 - 1, o2) :: r2, by rw [HR.out]; rfl, by rw [HR.out]; rfl, by rw [List.length_cons, ← HR.out]; omega, HNX.out, HLB2.out, by rw [List.length_cons, ← HR.out]; exact HD.out _, HBd.out _⟩
                    case measure => simp [lenV]
                · have HF : Hid (popF S1 = (l, ob) :: r) := Lib.hid (by rw [← HPop.out]; exact popF_done hl0)
                  rw [HF.out] at HNx
                  have hq : (l == 0) = false := by simpa using hl0
                  have h1 : ((l, ob) :: r).length = r.length + 1 := rfl
                  have t1 := htop.1
                  rw [h1] at HSk hsl
                  rw [h1]
                  have HLow2 : Hid (Low ((i + 1 : Nat) : Int) ((l, ob) :: r)) := Lib.hid (by have := HLb.out.low; rwa [Int.natCast_add, Int.natCast_one])
                  obtain ⟨R, hR⟩ : ∃ R, R = r.length := ⟨_, rfl⟩
                  have HR := Lib.hid hR
                  rw [← hR] at t1 HSk hsl ⊢
                  clear htop h1 hR hl0 HLb HPop
                  go_wp2
                  go_roundw
                  case rel => exact ⟨i + 1, _, _, (l, ob) :: r, _, _, _, _, by first | rfl | go_num, by first | rfl | go_num, by rw [HR.out]; rfl, by rw [HR.out]; rfl, by go_num, by omega, by rw [List.length_cons, ← HR.out]; omega, by omega, by omega, HLow2.out, HNx.out, by rw [List.length_cons, ← HR.out]; exact HSk.out, HBk.out⟩
                  case measure => simp [intOf]; omega
          · rw [eD, eE] at HNx
            clear eD eE
            have hDi : (M : Int) ≤ d := by omega
            have hEi : (y : Int) ≤ n := by omega
            go_wp2
            go_loopw [6, 7] (fun tl to wq => ∃ (S' : List (Int × Bool)), tl = .slice (some ⟨g1, 0, none⟩) S'.length d1 ∧ to = .slice (some ⟨g2, 0, none⟩) S'.length d2 ∧ S'.length ≤ M ∧ popF S' = popF S1 ∧ LowB i S' ∧ Stk w.heap.size wq (.slice (some ⟨g1, 0, none⟩) S'.length d1) (.slice (some ⟨g2, 0, none⟩) S'.length d2) S' ∧ Below w.heap.size w wq) (fun tl _ _ => lenV tl)
            case atStart => exact ⟨S1, by rw [HS1l.out], by rw [HS1l.out], by rw [HS1l.out]; exact Nat.le_refl _, rfl, HLB.out, by rw [HS1l.out]; exact HSq.out, HBq.out⟩
            case round =>
              obtain ⟨S', rfl, rfl, hsl, hpop, hlb, hsk, hbk⟩ := hrel
              have HPop := Lib.hid hpop
              have HLb := Lib.hid hlb
              have HSk := Lib.hid hsk
              have HBk := Lib.hid hbk
              have HSk1 : w.heap.size ≤ g1 := HBlk
              clear hpop hlb hsk hbk
              cases S' with
              | nil =>
                have hnl : ([] : List (Int × Bool)).length = 0 := rfl
                rw [hnl]
                have HF : Hid (popF S1 = []) := Lib.hid (by rw [← HPop.out]; rfl)
                rw [HF.out] at HNx
                clear hnl
                go_wp2
                go_roundw
                case rel => exact ⟨i + 1, _, _, [], _, _, _, _, by first | rfl | go_num, by first | rfl | go_num, rfl, rfl, by go_num, by omega, by simp, by omega, by omega, (fun x hx => by cases hx), HNx.out, HSk.out, HBk.out⟩
                case measure => simp [intOf]; omega
              | cons x r =>
                obtain ⟨l, ob⟩ := x
                have htop := HSk.out.top rfl
                by_cases hl0 : l = 0
                · subst hl0
                  have hnx : popF (decF r) = popF S1 := (popF_next (o := ob) rfl).trans HPop.out
                  have hlb2 := HLb.out.next
                  have hsk2 := HSk.out.pop rfl
                  obtain ⟨hk1, hk2⟩ := row_cap HSk.out.o1
                  obtain ⟨hk3, hk4⟩ := row_cap HSk.out.o2
                  unfold maxLen at hk2 hk4
                  rw [List.length_cons] at hk1 hk3
                  have HNX := Lib.hid hnx
                  have HLB2 := Lib.hid hlb2
                  have HSK2 := Lib.hid hsk2
                  have HLB0 := HLb
                  clear hnx hlb2 hsk2 HLb HPop HSk HNx
                  cases r with
                  | nil =>
                    have h1 : ((0, ob) :: ([] : List (Int × Bool))).length = 1 := rfl
                    rw [h1]
                    have t1 := htop.1
                    rw [show ([] : List (Int × Bool)).length = 0 from rfl] at t1
                    rw [show ([] : List (Int × Bool)).length = 0 from rfl] at hk1 hk3
                    clear htop h1
                    go_wp2
                    go_quiet (fail)
                    go_wp2
                    go_roundw
                    case rel => exact ⟨[], rfl, rfl, by simp, HNX.out, HLB2.out, by first | exact HSK2.out | exact HSK2.out.drew _, by first | exact HBk.out | exact belDraws HBk.out _⟩
                    case measure => simp [lenV]
                  | cons z r2 =>
                    obtain ⟨l2, o2⟩ := z
                    have h1 : ((0, ob) :: (l2, o2) :: r2).length = r2.length + 2 := rfl
                    have h2 : ((l2, o2) :: r2).length = r2.length + 1 := rfl
                    have t1 := htop.1
                    rw [h2] at t1
                    obtain ⟨t2, t3⟩ := HSK2.out.top rfl
                    have hd := fun q => (HSK2.out.drew q).dec rfl
                    have hlb3 := HLB0.out.2 (l2, o2) (by simp)
                    dsimp only at hlb3
                    rw [h1] at hsl
                    rw [h1]
                    simp only [h2] at hd
                    have HD := Lib.hid hd
                    have hbd := fun q => (belDraws HBk.out q).setCell (p := ⟨g1, r2.length, none⟩) HSk1 (.int .i64 (l2 - 1))
                    have HBd := Lib.hid hbd
                    clear htop h1 hd hbd HSK2
                    obtain ⟨R, hR⟩ : ∃ R, R = r2.length := ⟨_, rfl⟩
                    have HR := Lib.hid hR
                    rw [h2] at hk1 hk3
                    rw [← hR] at t1 t2 t3 hsl HD HBd hk1 hk3 ⊢
                    clear hR h2
                    go_wp2
                    go_quiet (fail)
                    go_wp2
                    go_roundw
                    case rel => exact ⟨(l2 - 1, o2) :: r2, by rw [HR.out]; rfl, by rw [HR.out]; rfl, by rw [List.length_cons, ← HR.out]; omega, HNX.out, HLB2.out, by rw [List.length_cons, ← HR.out]; exact HD.out _, HBd.out _⟩
                    case measure => simp [lenV]
                · have HF : Hid (popF S1 = (l, ob) :: r) := Lib.hid (by rw [← HPop.out]; exact popF_done hl0)
                  rw [HF.out] at HNx
                  have hq : (l == 0) = false := by simpa using hl0
                  have h1 : ((l, ob) :: r).length = r.length + 1 := rfl
                  have t1 := htop.1
                  rw [h1] at HSk hsl
                  rw [h1]
                  have HLow2 : Hid (Low ((i + 1 : Nat) : Int) ((l, ob) :: r)) := Lib.hid (by have := HLb.out.low; rwa [Int.natCast_add, Int.natCast_one])
                  obtain ⟨R, hR⟩ : ∃ R, R = r.length := ⟨_, rfl⟩
                  have HR := Lib.hid hR
                  rw [← hR] at t1 HSk hsl ⊢
                  clear htop h1 hR hl0 HLb HPop
                  go_wp2
                  go_roundw
                  case rel => exact ⟨i + 1, _, _, (l, ob) :: r, _, _, _, _, by first | rfl | go_num, by first | rfl | go_num, by rw [HR.out]; rfl, by rw [HR.out]; rfl, by go_num, by omega, by rw [List.length_cons, ← HR.out]; omega, by omega, by omega, HLow2.out, HNx.out, by rw [List.length_cons, ← HR.out]; exact HSk.out, HBk.out⟩
                  case measure => simp [intOf]; omega
    · obtain rfl : i = m := by omega
      have hf : levF xs = (d, n) := by
        rw [← HLev.out, HM.out, List.drop_length]
        rfl
      go_wp2
      refine bodyPost_ret (v := .tuple #[.int .i64 d, .int .i64 n]) (by first | rfl | (simp [results]; done) | (kernel_rfl)) rfl ?_
      exact ⟨by rw [hf], by first | exact hbr | exact belDraws hbr _⟩
end Go.Proofs.YtdbahiepihkagaaGreatDoor
