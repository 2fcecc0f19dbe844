/- What slices.Backward of a list of terms gives: its terms, the last one first. -/
import Derived.Test.YtbcndmlhbdanaaaRound
import Derived.Test.YtbcndmlhbdanaaaTermP1
import Derived.Test.YtbcndmlhbdanaaaTermTop
namespace Go.Proofs.Ytbcndmlhbdanaaa
open Go.RowKit Go.Shelf
attribute [local go_sem] Oper.semAt_some

/-- what a round keeps: what lies below n, and the box at B -/
def KeepsB (n B : Nat) (W W' : World) : Prop := Below n W W' ∧ ∀ v, W.cell? ⟨B, 0, none⟩ = some v → W'.cell? ⟨B, 0, none⟩ = some v
theorem KeepsB.refl (n B : Nat) (W : World) : KeepsB n B W W := ⟨Below.refl _ _, fun _ h => h⟩
theorem KeepsB.trans {n B : Nat} {X Y Z : World} (h : KeepsB n B X Y) (k : KeepsB n B Y Z) : KeepsB n B X Z := ⟨h.1.trans k.1, fun v hv => k.2 v (h.2 v hv)⟩
theorem KeepsB.put {n B : Nat} {w : World} (hn : n ≤ w.heap.size) (W : World) (l : Nat) (o o' : Obj) (hl : w.heap.size ≤ l) (h : W.heap[l]? = some o) (hc : o.isCells = false) (hw : o.isWalk = false) : KeepsB n B W (W.putObj l o') := by
  refine ⟨belowK_b hn W l o o' hl h hc hw, fun v hv => ?_⟩
  by_cases e : B = l
  · subst e
    simp only [World.cell?, h] at hv
    cases o with
    | cells a t f => cases hc
    | _ => simp at hv
  · have hs : (W.putObj l o').heap[B]? = W.heap[B]? := World.putObj_heap_other (by intro h; first | exact e h | exact e h.symm)
    simp only [World.cell?] at hv ⊢
    rw [hs]
    exact hv

/-- what the round with the number k is given: a place and its term -/
def backV (xs : List (Int × Int)) (k : Nat) : Array Value := #[.int .i64 ((xs.length - 1 - k : Nat) : Int), .agg #[.int .i64 (toA xs (xs.length - 1 - k)), .int .i64 (wtA xs (xs.length - 1 - k))]]

set_option maxRecDepth 100000 in
set_option maxHeartbeats 2000000 in
theorem back_rounds (F : Fence) (n : Nat) (hf : F.fn 48) (hro : F.round = none) (hn : 1 ≤ n) (Bs n₀ b off m cap : Nat) (xs : List (Int × Int)) (hm : m = xs.length) (h0m : 0 < m) (hreach : m ≤ 1000000) (hb : b < n₀)
    (w : World) (hBw : Bs < w.heap.size) (hnw : n₀ ≤ w.heap.size) (hBs' : w.cell? ⟨Bs, 0, none⟩ = some (.slice (some ⟨b, off, none⟩) m cap)) (hc' : ∀ i, i < m → w.cell? ⟨b, off + i * 2, none⟩ = some (.int .i64 (toA xs i)) ∧ w.cell? ⟨b, off + i * 2 + 1, none⟩ = some (.int .i64 (wtA xs i))) :
    Rounds F n Try.prog 48 #[.pointer (some ⟨Bs, 0, none⟩)] (backV xs) m (KeepsB n₀ Bs) w := by
  intro l J W hW hY h0
  have HC := Lib.hid (fun i (h : i < m) => (⟨(hW.cell (p := ⟨b, off + i * 2, none⟩) (show b < w.heap.size by omega)).trans (hc' i h).1, (hW.cell (p := ⟨b, off + i * 2 + 1, none⟩) (show b < w.heap.size by omega)).trans (hc' i h).2⟩ : _ ∧ _))
  have hBs := (hW.cell (p := ⟨Bs, 0, none⟩) hBw).trans hBs'
  have HM := Lib.hid hm
  have HY := Lib.hid hY
  clear hc' hBs' hm hW hBw hnw hY
  refine callsIn_of_wp Try.func48 rfl hf ?_ hro
  simp only [Try.ntmps48, List.size_toArray, List.length_cons, List.length_nil, Nat.reduceAdd, Nat.reduceSub, Array.replicate_succ, Array.replicate_zero, List.push_toArray, List.append_toArray, List.nil_append, List.cons_append]
  gi_wp2
  gi_loopw [3] (fun i wr => ∃ k : Nat, k ≤ m ∧ i = .int .i64 ((m : Int) - 1 - k) ∧ J k wr ∧ KeepsB n₀ Bs W wr)
    (fun i _ => (intOf i + 1).toNat)
  case atStart => exact ⟨0, Nat.zero_le _, by first | (go_num; done) | (congr 1; omega), h0, KeepsB.refl _ _ _⟩
  case round =>
    obtain ⟨k, hk, rfl, hJs, hnx⟩ := hrel
    by_cases hlt : k < m
    · obtain ⟨j, hj⟩ : ∃ j : Nat, j = m - 1 - k := ⟨_, rfl⟩
      have hjm : j < m := by omega
      have ej : (m : Int) - 1 - k = j := by omega
      have hcx : wr.cell? ⟨Bs, 0, none⟩ = some (.slice (some ⟨b, off, none⟩) m cap) := hnx.2 _ hBs
      have g1 := (hnx.1.cell (p := ⟨b, off + j * 2, none⟩) hb).trans (HC.out j hjm).1
      have g2 := (hnx.1.cell (p := ⟨b, off + j * 2 + 1, none⟩) hb).trans (HC.out j hjm).2
      obtain ⟨fn, tmps, assign, body, hy, hR⟩ := HY.out k wr hlt hJs
      unfold backV at hy
      rw [← HM.out, ← hj] at hy
      generalize toA xs j = op at g1 hy
      generalize wtA xs j = ar at g2 hy
      have hj0 : (0 : Int) ≤ j := by omega
      have hj1 : (j : Int) < m := by omega
      have HK := Lib.hid hj
      have HNx := Lib.hid hnx
      rw [ej]
      clear hj hnx
      gi_wp2
      refine hR.mono ?_
      rintro e W3 ⟨rfl, hJ3, hk3⟩
      gi_wp2
      go_roundw
      case rel => exact ⟨k + 1, by omega, by have := HK.out; first | (go_num; done) | (congr 1; omega), hJ3, HNx.out.trans hk3⟩
      case measure => first | (simp [intOf]; done) | (simp [intOf]; omega)
    · obtain rfl : k = m := by omega
      have d0 : decide ((k : Int) - 1 - k ≥ 0) = false := by simp; omega
      gi_wp2
      go_end0
      exact ⟨⟨_, rfl⟩, hJs⟩

set_option maxHeartbeats 1000000 in
theorem back_in (F : Fence) (n : Nat) (hf : F.fn 45) (hro : F.round = none) (a : Option Addr) (len cap : Nat) (w : World) :
    CallsIn F n Try.prog 45 #[.slice a len cap] w fun e w' => e = .returned (.func (.func 48) #[] #[.pointer (some ⟨w.heap.size, 0, none⟩)]) ∧ w' = w.alloc (.cells #[.slice a len cap] 22) := by
  refine callsIn_of_wp Try.func45 rfl hf ?_ hro
  simp only [Try.ntmps45, List.size_toArray, List.length_cons, List.length_nil, Nat.reduceAdd, Nat.reduceSub, Array.replicate_succ, Array.replicate_zero, List.push_toArray, List.append_toArray, List.nil_append, List.cons_append]
  gi_wp2
  go_ret
  exact ⟨rfl, rfl⟩
end Go.Proofs.Ytbcndmlhbdanaaa
