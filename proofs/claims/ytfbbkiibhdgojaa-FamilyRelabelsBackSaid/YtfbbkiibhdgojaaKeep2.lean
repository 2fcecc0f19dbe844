/- More moves of a walk through a region that draws its order: three operations that may come up; one way on behind all orders; a make as a step. -/
import Derived.Test.YtfbbkiibhdgojaaSteps
namespace Go.Proofs.Ytfbbkiibhdgojaa
open Go.RowKit

section
variable {P : Program} {ops : Array Oper} {Q : Exit → Act → World → Prop} {md : Region.Mode} {S : World → Prop} {T : List Nat}
/-- number i, j or k may come up -/
theorem keep_three (i j k : Nat) {o o' o'' : Oper} {n : Nat} {l : Array Bool} {a : Act} {w : World} (hr : Region.ready md ops l = [i, j, k]) (ho : ops[i]? = some o) (ho' : ops[j]? = some o') (ho'' : ops[k]? = some o'')
    (h : ∀ K : Act → World → Prop, (∀ a' w', (Calm T (l.setIfInBounds i true) → S w') → AnyK P md ops Q S T n (l.setIfInBounds i true) a' w' → K a' w') → if Region.wanted o (yielded ops a.tmps) = true then Oper.wp P o a w K Q else K (a.put o.dst undef) w)
    (h' : ∀ K : Act → World → Prop, (∀ a' w', (Calm T (l.setIfInBounds j true) → S w') → AnyK P md ops Q S T n (l.setIfInBounds j true) a' w' → K a' w') → if Region.wanted o' (yielded ops a.tmps) = true then Oper.wp P o' a w K Q else K (a.put o'.dst undef) w)
    (h'' : ∀ K : Act → World → Prop, (∀ a' w', (Calm T (l.setIfInBounds k true) → S w') → AnyK P md ops Q S T n (l.setIfInBounds k true) a' w' → K a' w') → if Region.wanted o'' (yielded ops a.tmps) = true then Oper.wp P o'' a w K Q else K (a.put o''.dst undef) w) : AnyK P md ops Q S T (n + 1) l a w := by
  refine ⟨fun e => ?_, fun m hm => ?_⟩
  · rw [hr] at e; cases e
  · rw [hr] at hm
    have : m = i ∨ m = j ∨ m = k := by simpa using hm
    rcases this with rfl | rfl | rfl
    · exact keep_op ho h
    · exact keep_op ho' h'
    · exact keep_op ho'' h''
/-- the walk ends as it should, with R -/
def Only (R : Act → World → Prop) : Exit → Act → World → Prop
  | .normal, a, w => R a w
  | _, _, _ => False
/-- one way on behind all orders of a region -/
theorem keep_join {c : Code} {a : Act} {w : World} (R : Act → Act → World → Prop) (h1 : c.wp P (Only (R a)) a w) (h2 : ∀ a' w', R a a' w' → Q .normal a' w') : c.wp P Q a w :=
  Code.wp_mono (fun e a' w' q => by
    cases e with
    | normal => exact h2 a' w' q
    | _ => exact q.elim) h1
theorem step_make_full {o : Oper} {a : Act} {w : World} {K : Act → World → Prop} {E : Prop} (hgd : o.guard = none) (l c : Operand) (t : TypeId) (hop : o.op = Op.makeSlice t l c)
    (base : Nat) (e : TypeId) (i : TypeInfo) (z : Value) (size : Nat) (h1 : P.underlying t = some (.slice e)) (h2 : P.info? e = some i) (h3 : i.zero = some z) (h4 : i.size = size)
    (kl kc : IntKind) (L C : Int) (n : Nat) (hl : a.eval l = .int kl L) (hc : a.eval c = .int kc C) (hL : L = (n : Int)) (hC : C = (n : Int)) (b2 : i.bytes * n ≤ 281474976710656) (b3 : n ≤ maxLen) (b4 : base ≤ w.heap.size)
    (hK : ∀ w', w'.ownsRow base e size (.slice (some ⟨w.heap.size, 0, none⟩) n n) n (madeCells z.cells (n * size)).toList → w.grownBy w' none → K (a.put o.dst (.slice (some ⟨w.heap.size, 0, none⟩) n n)) w') :
    if Region.wanted o (yielded ops a.tmps) = true then Oper.wp P o a w K Q else E := by
  have hw : Region.wanted o (yielded ops a.tmps) = true := by simp [Region.wanted, hgd]
  rw [if_pos hw]
  obtain ⟨w', hrun, r1, r2⟩ := run_make_full (P := P) w base t e i z size h1 h2 h3 h4 kl kc n b2 b3 b4
  subst hL
  subst hC
  unfold Oper.wp
  simp [execOp, hop, hl, hc, hrun, Result.andThen]
  exact hK w' r1 r2
end

/-- two rows that the call has made and a struct about them -/
theorem made_of {W w : World} {ib hb gb n : Nat} {u0 u1 x1 x2 : Value} (hB : Below W.heap.size W w)
    (h1 : w.ownsRow W.heap.size 3 1 (.slice (some ⟨ib, 0, none⟩) n n) n (madeCells (Value.int .i64 0).cells (n * 1)).toList)
    (h2 : w.ownsRow W.heap.size 38 1 (.slice (some ⟨hb, 0, none⟩) n n) n (madeCells (Value.slice none 0 0).cells (n * 1)).toList)
    (hg : W.heap.size ≤ gb) (c0 : w.cell? ⟨gb, 0, none⟩ = some u0) (c1 : w.cell? ⟨gb, 1, none⟩ = some u1) (f0 : w.frozen? ⟨gb, 0, none⟩ = false) (f1 : w.frozen? ⟨gb, 1, none⟩ = false)
    (d1 : ib ≠ hb) (d2 : ib ≠ gb) (d3 : hb ≠ gb) :
    Made W gb ((w.setCell ⟨gb, 0, none⟩ x1).setCell ⟨gb, 1, none⟩ x2) x1 x2 (.slice (some ⟨ib, 0, none⟩) n n) (List.replicate n 0) (.slice (some ⟨hb, 0, none⟩) n n) ((bare n).map Prod.fst) (bare n) := by
  have e1 : (madeCells (Value.int .i64 0).cells (n * 1)).toList = intsV (List.replicate n 0) := by
    rw [show (Value.int .i64 0).cells = #[.int .i64 0] from rfl, toList_madeCells_one, Nat.mul_one]
    simp [intsV]
  have e2 : (madeCells (Value.slice none 0 0).cells (n * 1)).toList = (bare n).map Prod.fst := by
    rw [show (Value.slice none 0 0).cells = #[.slice none 0 0] from rfl, toList_madeCells_one, Nat.mul_one, bare_fst]
  rw [e1] at h1
  rw [e2] at h2
  have hA : Apart W.heap.size w (idsR (.slice (some ⟨ib, 0, none⟩) n n) (List.replicate n 0) :: hdrR (.slice (some ⟨hb, 0, none⟩) n n) ((bare n).map Prod.fst) :: (bare n).map lnkR) := by
    refine bare_rows n ⟨fun r hr => ?_, ?_⟩
    · rcases List.mem_cons.1 hr with rfl | hr
      · unfold Rw.Held idsR
        simp only [List.length_replicate]
        exact h1
      · obtain rfl : r = _ := by simpa using hr
        unfold Rw.Held hdrR
        simp only [List.length_map, bare_len]
        exact h2
    · simp [idsR, hdrR, apartV, Value.ownBlock]
      exact d1
  have hM : Made W gb w u0 u1 (.slice (some ⟨ib, 0, none⟩) n n) (List.replicate n 0) (.slice (some ⟨hb, 0, none⟩) n n) ((bare n).map Prod.fst) (bare n) := by
    refine ⟨hB, hg, c0, c1, f0, f1, hA, fun r hr => ?_⟩
    rcases List.mem_cons.1 hr with rfl | hr
    · simp [idsR, Value.ownBlock]; exact d2
    · rcases List.mem_cons.1 hr with rfl | hr
      · simp [hdrR, Value.ownBlock]; exact d3
      · obtain ⟨u, hu, rfl⟩ := List.mem_map.1 hr
        rw [(List.mem_replicate.1 hu).2]
        simp [lnkR, Value.ownBlock]
  exact (hM.put0 _).put1 _
end Go.Proofs.Ytfbbkiibhdgojaa
