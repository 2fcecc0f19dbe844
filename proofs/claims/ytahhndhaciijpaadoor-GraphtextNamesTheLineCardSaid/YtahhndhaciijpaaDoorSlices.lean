/- What the functions of package slices answer that package graph calls: Max, Index, Contains, Repeat. -/
import Derived.Test.YtahhndhaciijpaaDoorMath1
import Derived.Laws.CopyOwn
namespace Go.Proofs.YtahhndhaciijpaaDoor
open Go.RowKit

/-- a row of ints that the call made: n cells from 'blk' on, f at each -/
def MadeAt (w : World) (blk n : Nat) (f : Nat → Int) : Prop :=
  blk < w.heap.size ∧ ∀ i, i < n → w.cell? ⟨blk, i, none⟩ = some (.int .i64 (f i)) ∧ w.frozen? ⟨blk, i, none⟩ = false

theorem rep_ints {z : Int} {n : Nat} : (List.replicate n (Value.int .i64 z)).length = n := List.length_replicate

theorem info3 : (Tryd.prog.info? 3).map (fun i => (i.zero, i.size, i.bytes)) = some (some (.int .i64 0), 1, 8) := by kernel_rfl

theorem copy_at {P : Program} {dT sT ty elem : TypeId} {g o dLen dCap : Nat} {ad : Addr} {sLen sCap : Nat} {cur : List Value} {t : TypeId} {B : Nat} {w0 w : World} (cs : List Value)
    (hu : P.underlying dT = some (.slice elem)) (hs : (P.info? elem).map (·.size) = some 1)
    (hg : w.heap[g]? = some (.cells cur.toArray t (0, 0))) (hn : cs.length = Nat.min sLen dLen)
    (hsrc : ∀ j v, cs[j]? = some v → w.cell? (ad.add j) = some v) (hfit : o + cs.length ≤ cur.length) (h1 : ∀ v ∈ cs, v.oneCell' = true) (hb : Below B w0 w) (hBg : B ≤ g) :
    ∃ w2, (Builtin.copy_ #[dT, sT] ty #[.slice (some ⟨g, o, none⟩) dLen dCap, .slice (some ad) sLen sCap]).run P w = .ok (goInt cs.length) w2 ∧
      w2.heap[g]? = some (.cells (splice cur o cs).toArray t (0, 0)) ∧ Below B w0 w2 :=
  ⟨_, run_copy_row P w dT sT ty elem g o dLen dCap ad sLen sCap cur.toArray t cs hu hs hg hn hsrc (by simpa using hfit) h1, by simpa [splice] using setRow_heap w g _ _ t _ hg, below_setRow hb hBg _⟩

theorem splice_ok {L : List Value} {m k n : Nat} {v : Value} (hl : L.length = n) (ht : L.take m = List.replicate m v) (hk : m + k ≤ n) :
    (splice L m (List.replicate k v)).length = n ∧ (splice L m (List.replicate k v)).take (m + k) = List.replicate (m + k) v := by
  refine ⟨by rw [length_splice _ _ _ (by simp; omega)]; exact hl, ?_⟩
  unfold splice
  rw [ht, ← List.append_assoc, List.replicate_append_replicate, List.take_append_of_le_length (by simp)]
  simp

theorem cell_of_heap {w : World} {b : Nat} {C : Array Value} {t : TypeId} {i : Nat} {v : Value} (h : w.heap[b]? = some (.cells C t (0, 0))) (hv : C[i]? = some v) : w.cell? ⟨b, i, none⟩ = some v := by
  simp [World.cell?, h, hv]
theorem free_of_heap {w : World} {b : Nat} {C : Array Value} {t : TypeId} {i : Nat} (h : w.heap[b]? = some (.cells C t (0, 0))) : w.frozen? ⟨b, i, none⟩ = false := by
  simp [World.frozen?, h]
theorem lt_of_heap {w : World} {b : Nat} {o : Obj} (h : w.heap[b]? = some o) : b < w.heap.size := by
  rcases Nat.lt_or_ge b w.heap.size with hl | hl
  · exact hl
  · simp [hl] at h

end Go.Proofs.YtahhndhaciijpaaDoor
