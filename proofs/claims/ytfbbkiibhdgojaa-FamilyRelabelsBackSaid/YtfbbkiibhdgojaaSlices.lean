/- What the functions of package slices answer that package graph calls: Max, Index, Contains, Repeat. -/
import Derived.Test.YtfbbkiibhdgojaaMath1
import Derived.Laws.CopyOwn
namespace Go.Proofs.Ytfbbkiibhdgojaa
open Go.RowKit

set_option maxHeartbeats 400000 in
theorem mul64_any (n : Nat) (hn : n ≤ 24) (w : World) :
    Calls Try.prog 40 #[.int .u64 1, .int .u64 n] w fun e w' => e = .returned (.tuple #[.int .u64 0, .int .u64 n]) ∧ w = w' := by
  have h1 : bits .and .u64 (n:Int) 4294967295 = n := by
    rw [show (4294967295:Int) = ((4294967295:Nat):Int) from rfl, u64_and_nat n 4294967295 (by omega) (by decide), show (4294967295:Nat) = 2 ^ 32 - 1 from rfl, Nat.and_two_pow_sub_one_eq_mod]
    omega
  have h2 : (n:Int) / 4294967296 = 0 := by omega
  have h3 : bits .and .u64 1 4294967295 = 1 := by decide
  have h4 : bits .and .u64 0 4294967295 = 0 := by decide
  go_enter Try.func40, Try.ntmps40
  go_wp2
  go_ret2
  exact ⟨rfl, rfl⟩

set_option maxHeartbeats 400000 in
theorem mul_any (n : Nat) (hn : n ≤ 24) (w : World) :
    Calls Try.prog 38 #[.int .u64 1, .int .u64 n] w fun e w' => e = .returned (.tuple #[.int .u64 0, .int .u64 n]) ∧ w = w' := by
  go_enter Try.func38, Try.ntmps38
  go_wp2_with (go_at_call 40; refine (mul64_any n hn _).mono ?_; rintro e w' ⟨rfl, rfl⟩)
  go_ret2
  exact ⟨rfl, rfl⟩

/-- a row of ints that the call made: n cells from 'blk' on, f at each -/
def MadeAt (w : World) (blk n : Nat) (f : Nat → Int) : Prop :=
  blk < w.heap.size ∧ ∀ i, i < n → w.cell? ⟨blk, i, none⟩ = some (.int .i64 (f i)) ∧ w.frozen? ⟨blk, i, none⟩ = false

theorem rep_ints {z : Int} {n : Nat} : (List.replicate n (Value.int .i64 z)).length = n := List.length_replicate

theorem info3 : (Try.prog.info? 3).map (fun i => (i.zero, i.size, i.bytes)) = some (some (.int .i64 0), 1, 8) := by kernel_rfl

theorem copy_at {P : Program} {dT sT ty elem : TypeId} {g o dLen dCap : Nat} {ad : Addr} {sLen sCap : Nat} {cur : List Value} {t : TypeId} {B : Nat} {w0 w : World} (cs : List Value)
    (hu : P.underlying dT = some (.slice elem)) (hs : (P.info? elem).map (·.size) = some 1)
    (hg : w.heap[g]? = some (.cells cur.toArray t (0, 0))) (hn : cs.length = Nat.min sLen dLen)
    (hsrc : ∀ j v, cs[j]? = some v → w.cell? (ad.add j) = some v) (hfit : o + cs.length ≤ cur.length) (h1 : ∀ v ∈ cs, v.oneCell' = true) (hb : Below B w0 w) (hBg : B ≤ g) :
    ∃ w2, (Builtin.copy_ #[dT, sT] ty #[.slice (some ⟨g, o, none⟩) dLen dCap, .slice (some ad) sLen sCap]).run P w = .ok (goInt cs.length) w2 ∧
      w2.heap[g]? = some (.cells (splice cur o cs).toArray t (0, 0)) ∧ Below B w0 w2 :=
  ⟨_, run_copy_row P w dT sT ty elem g o dLen dCap ad sLen sCap cur.toArray t cs hu hs hg hn hsrc (by simpa using hfit) h1, by simpa [splice] using setRow_heap w g _ _ t _ hg, below_setRow hb hBg _⟩

theorem splice_ok {L : List Value} {m k n : Nat} {v : Value} (hl : L.length = n) (ht : L.take m = List.replicate m v) (hk : m + k ≤ n) :
    (splice L m (List.replicate k v)).length = n ∧ (splice L m (List.replicate k v)).take (m + k) = List.replicate (m + k) v := by
  refine ⟨by rw [length_splice _ _ _ (by simp; omega)]; exact hl, ?_⟩
  unfold splice
  rw [ht, ← List.append_assoc, List.replicate_append_replicate, List.take_append_of_le_length (by simp)]
  simp

theorem cell_of_heap {w : World} {b : Nat} {C : Array Value} {t : TypeId} {i : Nat} {v : Value} (h : w.heap[b]? = some (.cells C t (0, 0))) (hv : C[i]? = some v) : w.cell? ⟨b, i, none⟩ = some v := by
  simp [World.cell?, h, hv]
theorem free_of_heap {w : World} {b : Nat} {C : Array Value} {t : TypeId} {i : Nat} (h : w.heap[b]? = some (.cells C t (0, 0))) : w.frozen? ⟨b, i, none⟩ = false := by
  simp [World.frozen?, h]
theorem lt_of_heap {w : World} {b : Nat} {o : Obj} (h : w.heap[b]? = some o) : b < w.heap.size := by
  rcases Nat.lt_or_ge b w.heap.size with hl | hl
  · exact hl
  · simp [hl] at h

set_option maxHeartbeats 1000000 in
theorem repeat_any (xb xo xc n : Nat) (z : Int) (w : World) (hn1 : 1 ≤ n) (hn : n ≤ 24) (hx : w.cell? ⟨xb, xo, none⟩ = some (.int .i64 z)) (hxb : xb < w.heap.size) :
    Calls Try.prog 36 #[.slice (some ⟨xb, xo, none⟩) 1 xc, .int .i64 n] w fun e w' => (∃ blk, e = .returned (.slice (some ⟨blk, 0, none⟩) n n) ∧ w.heap.size ≤ blk ∧ MadeAt w' blk n fun _ => z) ∧ Below w.heap.size w w' := by
  obtain ⟨i0, hi, hz0, hz1, hz2⟩ := info_parts info3
  obtain ⟨Z, hZ, hZl⟩ : ∃ Z : List Value, madeCells (Value.int .i64 0).cells (n * i0.size) = Z.toArray ∧ Z.length = n := ⟨_, rfl, by rw [hz1, Nat.mul_one, Array.length_toList]; exact size_madeCells _ _⟩
  have hmk := fun W => run_make (P := Try.prog) W 22 3 i0 (.int .i64 0) Try.underlying22 hi hz0 .i64 .i64 n n (by omega) (by omega) (by rw [hz2]; omega) (by omega)
  simp only [Int.toNat_natCast] at hmk
  rw [hZ] at hmk
  have e1 : decide ((n : Int) < 0) = false := by simp
  have e2 : (n : Int) ≤ 9223372036854775807 := by omega
  have HZl := Lib.hid hZl
  clear hZ hZl hi hz0 hz1 hz2
  go_enter Try.func36, Try.ntmps36
  go_wp2_with (go_at_call 38; refine (mul_any n hn _).mono ?_; rintro e w' ⟨rfl, rfl⟩)
  obtain ⟨w2, hrun, hH, hB⟩ := copy_at (P := Try.prog) (dT := 22) (sT := 22) (ty := 3) (elem := 3) (g := w.heap.size) (o := 0) (dLen := n) (dCap := n) (ad := ⟨xb, xo, none⟩) (sLen := 1) (sCap := xc) (cur := Z) (t := 3) (B := w.heap.size) (w0 := w) (w := w.alloc (.cells Z.toArray 3)) [.int .i64 z] Try.underlying22 (by kernel_rfl) (by first | exact (MapKept.heap_alloc w _).1 | simp [World.alloc_eq]) (by show 1 = min 1 n; omega) (by
      intro j v hj
      match j with
      | 0 => simp at hj; subst hj; rw [add_none, Nat.add_zero, World.cell?_alloc_lt _ _ _ hxb]; exact hx
      | j + 1 => simp at hj) (by simp; have := HZl.out; omega) (by simp [Value.oneCell']) ((Below.refl _ _).alloc (Nat.le_refl _) _) (Nat.le_refl _)
  rw [hrun]
  clear hrun hmk
  have HH := Lib.hid hH
  clear hH
  go_wp2
  go_loopw [8] (fun t wr => ∃ m : Nat, 1 ≤ m ∧ m ≤ n ∧ t = .int .i64 m ∧ (∃ L : List Value, L.length = n ∧ L.take m = List.replicate m (.int .i64 z) ∧ wr.heap[w.heap.size]? = some (.cells L.toArray 3 (0, 0))) ∧ Below w.heap.size w wr) (fun t _ => n - (intOf t).toNat)
  case atStart =>
    have hs := splice_ok (L := Z) (m := 0) (k := 1) (n := n) (v := .int .i64 z) HZl.out (by simp) (by omega)
    exact ⟨1, by omega, by omega, rfl, ⟨_, hs.1, by simpa using hs.2, HH.out⟩, hB⟩
  case round =>
    obtain ⟨m, hm1, hm, rfl, ⟨L, hL, ht, hg⟩, hbel⟩ := hrel
    have Hg := Lib.hid hg
    have HL := Lib.hid hL
    have Ht := Lib.hid ht
    clear hg hL ht
    by_cases hlt : m < n
    · have hm0 : (0 : Int) ≤ m := by omega
      have hmn : (m : Int) ≤ n := by omega
      obtain ⟨k, hk⟩ : ∃ k, k = Nat.min m (n - m) := ⟨_, rfl⟩
      have hk2 : m + k ≤ n ∧ 1 ≤ k := by rw [hk]; simp only [Nat.min_def]; split <;> omega
      have hs := splice_ok (k := k) HL.out Ht.out hk2.1
      have Hk := Lib.hid hk
      have Hs := Lib.hid hs
      clear hs hk
      have hne : ¬ n = m := by omega
      have hsrc : ∀ j v, (List.replicate k (Value.int .i64 z))[j]? = some v → wr.cell? ((⟨w.heap.size, 0, none⟩ : Addr).add j) = some v := by
        intro j v hj
        rw [add_none, Nat.zero_add]
        have hjk : j < k := by
          rcases Nat.lt_or_ge j k with h | h
          · exact h
          · rw [List.getElem?_eq_none (by simpa using h)] at hj; cases hj
        have hv : v = .int .i64 z := by rw [List.getElem?_replicate, if_pos hjk] at hj; exact (Option.some.inj hj).symm
        have hjm : j < m := by have := Hk.out; have hkm : k ≤ m := (by rw [this]; exact Nat.min_le_left _ _); omega
        refine cell_of_heap Hg.out ?_
        have h1 : (L.take m)[j]? = some (.int .i64 z) := by rw [Ht.out, List.getElem?_replicate, if_pos hjm]
        rw [List.getElem?_take_of_lt hjm] at h1
        rw [hv]
        simpa using h1
      have Hsrc := Lib.hid hsrc
      clear hsrc
      go_wp2
      go_region_law (refine step_copy_splice rfl (.tmp 41) (.tmp 44) 22 22 rfl 3 Try.underlying22 (by kernel_rfl) (some ⟨w.heap.size, m, none⟩) (some ⟨w.heap.size, 0, none⟩) (n - m) (n - m) m n (by simp [Act.eval, Act.put]) (by simp [Act.eval, Act.put]) w.heap.size m L 3 Hg.out (List.replicate k (.int .i64 z)) (by rw [List.length_replicate, Hk.out]) (fun _ => ⟨rfl, _, rfl, Hsrc.out⟩) (by rw [List.length_replicate, HL.out]; omega) (by intro v hv; rw [List.eq_of_mem_replicate hv]; rfl) w.heap.size w (by exact belDraws hbel 1) (Nat.le_refl _) ?_; intro w4 HG4 hB4)
      simp only [show IntKind.i64.wrap ((m : Int) + (k : Int)) = ((m + k : Nat) : Int) from by rw [IntWalk.i64_in _ (by omega)]; omega]
      simp [Act.put]
      go_wp2
      go_roundw
      case rel => exact ⟨m + k, by omega, by omega, by go_num, ⟨_, Hs.out.1, Hs.out.2, HG4.out⟩, hB4⟩
      case measure => simp [intOf]; omega
    · go_wp2
      go_ret
      refine ⟨⟨w.heap.size, rfl, Nat.le_refl _, lt_of_heap Hg.out, fun i hi => ⟨cell_of_heap Hg.out ?_, free_of_heap Hg.out⟩⟩, hbel⟩
      have h1 : (L.take m)[i]? = some (.int .i64 z) := by rw [Ht.out, List.getElem?_replicate, if_pos (by omega)]
      rw [List.getElem?_take_of_lt (by omega)] at h1
      simpa using h1
end Go.Proofs.Ytfbbkiibhdgojaa
