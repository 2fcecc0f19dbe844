/- A slice of ints that the call owns: append of one number, whatever room there is. -/
import Derived.Test.YtfbbkiibhdgojaaSlices
import Derived.Deep.LoopGhost
namespace Go.Proofs.Ytfbbkiibhdgojaa
open Go.RowKit

/-- A slice of the call's own, from block B on: its elements are 'qs', and the cells of its spare room are there. -/
def QueueAt (B : Nat) (w : World) (a : Option Addr) (l c : Nat) (qs : List Int) : Prop :=
  l = qs.length ∧ l ≤ c ∧ c ≤ maxLen ∧ ((a = none ∧ c = 0) ∨ ∃ b o, a = some ⟨b, o, none⟩ ∧ B ≤ b ∧ b < w.heap.size ∧
    (∀ i, i < l → w.cell? ⟨b, o + i, none⟩ = some (.int .i64 (idA qs i))) ∧ ∀ i, i < c → (w.cell? ⟨b, o + i, none⟩).isSome = true ∧ w.frozen? ⟨b, o + i, none⟩ = false)

def blockOf : Option Addr → Option Nat
  | none => none
  | some a => some a.block

theorem QueueAt.keep {B : Nat} {w w' : World} {a : Option Addr} {l c : Nat} {qs : List Int} (h : QueueAt B w a l c qs) (hs : w.heap.size ≤ w'.heap.size) (hk : ∀ b, blockOf a = some b → w'.heap[b]? = w.heap[b]?) : QueueAt B w' a l c qs := by
  obtain ⟨h1, h2, h3, h4⟩ := h
  refine ⟨h1, h2, h3, ?_⟩
  rcases h4 with h4 | ⟨b, o, rfl, hB, hb, hc, hf⟩
  · exact .inl h4
  · have e := hk b rfl
    refine .inr ⟨b, o, rfl, hB, by omega, fun i hi => ?_, fun i hi => ?_⟩
    · rw [World.cell?_of_block (w := w) (a := ⟨b, o + i, none⟩) e]; exact hc i hi
    · rw [World.cell?_of_block (w := w) (a := ⟨b, o + i, none⟩) e, World.frozen?_of_block (w := w) (a := ⟨b, o + i, none⟩) e]; exact hf i hi

theorem idA_snoc_old {qs : List Int} {z : Int} {i : Nat} (h : i < qs.length) : idA (qs ++ [z]) i = idA qs i := by
  unfold idA
  simp [List.getD, List.getElem?_append_left h]
theorem idA_snoc_new (qs : List Int) (z : Int) : idA (qs ++ [z]) qs.length = z := by
  unfold idA
  simp [List.getD]

theorem append_run (B : Nat) (w : World) (ty : TypeId) (a : Option Addr) (l c : Nat) (qs : List Int) (z : Int) (nb nc : Nat) (h : QueueAt B w a l c qs) (hx : w.cell? ⟨nb, 0, none⟩ = some (.int .i64 z)) (hB : B ≤ w.heap.size) (hl : qs.length ≤ 1000000) :
    ∃ a' c' w', (Builtin.append_ #[22, 22] ty #[.slice a l c, .slice (some ⟨nb, 0, none⟩) 1 nc]).run Try.prog w = .ok (.slice a' (l + 1) c') w' ∧ QueueAt B w' a' (l + 1) c' (qs ++ [z]) ∧ w.grownBy w' (blockOf a) ∧ (blockOf a' = blockOf a ∨ ∃ b, blockOf a' = some b ∧ w.heap.size ≤ b) := by
  obtain ⟨i0, hi, hz0, hz1, hz2⟩ := info_parts info3
  obtain ⟨h1, h2, h3, h4⟩ := h
  by_cases hroom : l + 1 ≤ c
  · rcases h4 with ⟨_, h4⟩ | ⟨b, o, rfl, hb, hlt, hc, hf⟩
    · omega
    · have hrun := run_append_room_cells (P := Try.prog) w 22 ty 3 i0 Try.underlying22 hi b o l c ⟨nb, 0, none⟩ 1 nc [.int .i64 z] (by rw [hz1]; rfl) (by
        intro j u hj
        match j with
        | 0 => simp at hj; subst hj; rw [add_none]; exact hx
        | j + 1 => simp at hj) (by simp [Value.oneCell']) hroom (by rw [hz1]; intro j hj; simp at hj; subst hj; simpa using (hf l (by omega)).1) (by rw [hz1]; intro j hj; simp at hj; subst hj; simpa using (hf l (by omega)).2)
      rw [hz1, Nat.mul_one] at hrun
      have hset : w.setCells b (o + l) [.int .i64 z] = w.setCell ⟨b, o + l, none⟩ (.int .i64 z) := rfl
      rw [hset] at hrun
      obtain ⟨u, hu⟩ := Option.isSome_iff_exists.1 (hf l (by omega)).1
      refine ⟨_, _, _, hrun, ⟨by simp [h1], by omega, h3, .inr ⟨b, o, rfl, hb, by simpa [World.setCell] using hlt, fun i hi => ?_, fun i hi => ?_⟩⟩, ⟨rfl, rfl, rfl, by simp [World.setCell], fun k hk hne => ?_⟩, .inl rfl⟩
      · by_cases hil : i = l
        · subst hil
          have e : idA (qs ++ [z]) i = z := by rw [h1]; exact idA_snoc_new qs z
          rw [e]
          exact set_same hu
        · rw [set_other (by intro e; injection e; omega), idA_snoc_old (by omega)]
          exact hc i (by omega)
      · by_cases hil : i = l
        · subst hil
          rw [set_same hu, World.frozen?_setCell]
          exact ⟨rfl, (hf i (by omega)).2⟩
        · rw [set_other (by intro e; injection e; omega), World.frozen?_setCell]
          exact hf i hi
      · exact Below.heap_setCell w _ _ k (by intro e; exact hne (by simp [blockOf, e]))
  · have grow : ∃ v' w', (Builtin.append_ #[22, 22] ty #[.slice a l c, .slice (some ⟨nb, 0, none⟩) 1 nc]).run Try.prog w = .ok v' w' ∧ w'.ownsRow w.heap.size 3 1 v' (l + 1) (qs.map (Value.int .i64) ++ [.int .i64 z]) ∧ w.grownBy w' none := by
      have hnew : ∀ j u, [Value.int .i64 z][j]? = some u → w.cell? ((⟨nb, 0, none⟩ : Addr).add j) = some u := by
        intro j u hj
        match j with
        | 0 => simp at hj; subst hj; rw [add_none]; exact hx
        | j + 1 => simp at hj
      rcases h4 with ⟨rfl, h4⟩ | ⟨b, o, rfl, hb, hlt, hc, hf⟩
      · have hl0 : l = 0 := by omega
        have hq : qs = [] := List.eq_nil_of_length_eq_zero (by omega)
        subst hl0 h4 hq
        obtain ⟨v', w', hrun, r1, r2, _⟩ := run_append_own (P := Try.prog) w w.heap.size 22 ty 3 i0 (.int .i64 0) 1 8 Try.underlying22 hi hz0 hz1 hz2 rfl (by decide) (.slice none 0 0) 0 [] (World.ownsRow_nil w _ 3 1) ⟨nb, 0, none⟩ 1 nc [.int .i64 z] rfl hnew (by simp [Value.oneCell']) (by unfold maxLen; omega) (by omega) (Nat.le_refl _)
        exact ⟨v', w', hrun, by simpa using r1, by simpa [Value.ownBlock] using r2⟩
      · obtain ⟨v', w', hrun, r1, r2⟩ := run_append_arg_grows (P := Try.prog) w 22 ty 3 i0 (.int .i64 0) 1 8 Try.underlying22 hi hz0 hz1 hz2 rfl (by decide) ⟨b, o, none⟩ l c (qs.map (Value.int .i64)) (by simp [h1]) (by
          intro j u hj
          have hjl : j < qs.length := by
            rcases Nat.lt_or_ge j qs.length with h | h
            · exact h
            · rw [List.getElem?_eq_none (by simpa using h)] at hj; cases hj
          rw [add_none, hc j (by omega)]
          simp [List.getElem?_eq_getElem hjl] at hj
          subst hj
          simp [idA, List.getD, List.getElem?_eq_getElem hjl]) ⟨nb, 0, none⟩ 1 nc [.int .i64 z] rfl hnew (by omega) (by unfold maxLen; omega) (by omega)
        exact ⟨v', w', hrun, r1, r2⟩
    obtain ⟨v', w', hrun, ⟨hxl, hx0 | ⟨g, cap, cur, hv, hg1, hg2, hg3, hg4, hg5, hg6⟩⟩, r2⟩ := grow
    · exact absurd hx0.2 (by omega)
    · subst hv
      have hcur : cur.toList.take (l + 1) = (qs ++ [z]).map (Value.int .i64) := by rw [Nat.mul_one] at hg6; rw [hg6]; simp
      refine ⟨_, _, _, hrun, ⟨by simp [h1], hg3, hg4, .inr ⟨g, 0, rfl, by omega, lt_of_heap hg2, fun i hi => ?_, fun i hi => ?_⟩⟩, ⟨r2.os, r2.tape, r2.output, r2.size, fun k hk hne => r2.block k hk (by simp)⟩, .inr ⟨g, rfl, hg1⟩⟩
      · rw [Nat.zero_add]
        refine cell_of_heap hg2 ?_
        have e1 : (cur.toList.take (l + 1))[i]? = some (.int .i64 (idA (qs ++ [z]) i)) := by
          rw [hcur]
          have hil : i < (qs ++ [z]).length := by simp; omega
          simp only [List.getElem?_map, List.getElem?_eq_getElem hil, Option.map_some]
          simp [idA, List.getD, List.getElem?_eq_getElem hil]
        rw [List.getElem?_take_of_lt hi] at e1
        simpa using e1
      · rw [Nat.zero_add]
        have hic : i < cur.size := by omega
        rw [cell_of_heap hg2 (Array.getElem?_eq_getElem hic), free_of_heap hg2]
        exact ⟨rfl, rfl⟩

/-- 'queue = append(queue, x)' in a walk. -/
theorem wpList_append_queue {B : Nat} {w : World} {ops : Array Oper} {rest : List Oper} {o : Oper} {act : Act} {Q : Exit → Act → World → Prop}
    (hgd : o.guard = none) (s x : Operand) (hop : o.op = Op.call { callee := Callee.builtin Builtin.append, args := #[s, x], argTypes := #[22, 22] })
    (a : Option Addr) (l c : Nat) (qs : List Int) (z : Int) (nb nc : Nat) (hs : act.eval s = .slice a l c) (hx : act.eval x = .slice (some ⟨nb, 0, none⟩) 1 nc) (h : QueueAt B w a l c qs) (hz : w.cell? ⟨nb, 0, none⟩ = some (.int .i64 z)) (hB : B ≤ w.heap.size) (hl : qs.length ≤ 1000000)
    (hK : ∀ a' c' w', QueueAt B w' a' (l + 1) c' (qs ++ [z]) → w.grownBy w' (blockOf a) → (blockOf a' = blockOf a ∨ ∃ b, blockOf a' = some b ∧ w.heap.size ≤ b) → wpList Try.prog ops Q rest (act.put o.dst (.slice a' (l + 1) c')) w') :
    wpList Try.prog ops Q (o :: rest) act w := by
  refine wpList_plain hgd fun K hK' => ?_
  obtain ⟨a', c', w', hrun, h1, h2, h3⟩ := append_run B w o.type a l c qs z nb nc h hz hB hl
  unfold Oper.wp
  simp [execOp, hop, resolve, invoke, builtin, hs, hx, hrun, Result.andThen]
  exact hK' _ _ (hK a' c' w' h1 h2 h3)
end Go.Proofs.Ytfbbkiibhdgojaa
