/- A map whose keys are links. -/
import Derived.Test.YtkffpipcjdhbaaaGraph8
import Derived.Maps.OwnSet
import Derived.Maps.RangeWalk
import Derived.Maps.Ext
import Derived.DeepKeys5
namespace Go.Proofs.Ytkffpipcjdhbaaa
open Go.RowKit Go.Maps

theorem linkLaw : Keyed Try.prog 84 := Keyed.of_law (deep_law_gate laidOut (by decide) (of_decide_eq_true (by kernel_rfl)) (by kernel_rfl) (by kernel_rfl))

theorem keyLits_int (d : Nat) {z : Int} (h : (Lit.int .i64 z).wf = true) : Try.prog.keyLits (d + 1) 3 [.int .i64 z] = some [.int .i64 z] := by
  simp only [Program.keyLits, Try.underlying3]
  rw [if_pos ⟨trivial, h⟩]
theorem cells3 : Try.prog.cellsOf 3 = 1 := by kernel_rfl
theorem cellsLink : Try.prog.cellsOf 84 = 2 := by kernel_rfl
theorem keyLits_link (d : Nat) {a b : Int} (ha : (Lit.int .i64 a).wf = true) (hb : (Lit.int .i64 b).wf = true) : Try.prog.keyLits (d + 1 + 1) 84 [.int .i64 a, .int .i64 b] = some [.int .i64 a, .int .i64 b] := by
  rw [Program.keyLits.eq_def]
  simp only [Try.underlying84]
  rw [if_pos ⟨by rw [cellsLink]; rfl, by kernel_rfl⟩]
  simp [cells3, keyLits_int d ha, keyLits_int d hb]

/-- what a link reads as, as a key -/
def linkLit (p : Nat × Nat) : Lit := .string (keyBytes [.int .i64 p.1, .int .i64 p.2])
def linkV (p : Nat × Nat) : Value := .agg #[.int .i64 p.1, .int .i64 p.2]
/-- a link between nodes of a graph -/
def Near (p : Nat × Nat) : Prop := p.1 < 24 ∧ p.2 < 24

theorem keyOf_some {v : Value} {l : Lit} (h : keyOf Try.prog 84 v = some l) : ∃ a b : Int, v = .agg #[.int .i64 a, .int .i64 b] := by
  unfold keyOf at h
  rw [Try.underlying84] at h
  simp only at h
  split at h
  · rename_i hc
    obtain ⟨_, hf⟩ := Bool.and_eq_true_iff.1 hc
    obtain ⟨ls, hls, _⟩ := Option.map_eq_some_iff.1 h
    cases v with
    | agg cs =>
      simp only [Value.formed, Try.underlying84, cellsLink] at hf
      obtain ⟨l⟩ := cs
      match l, (show l.length = 2 by simpa using hf) with
      | [c0, c1], _ =>
        obtain ⟨d, hd⟩ : ∃ d, Try.prog.types.size = d + 1 := ⟨Try.prog.types.size - 1, by have : 0 < Try.prog.types.size := of_decide_eq_true (by kernel_rfl); omega⟩
        rw [hd, Program.keyLits.eq_def] at hls
        simp only [Try.underlying84] at hls
        split at hls
        · simp [cells3, Value.cells] at hls
          have inv : ∀ (c : Value) (x : List Lit), Try.prog.keyLits (d + 1) 3 [c] = some x → ∃ z, c = .int .i64 z := by
            intro c x hc
            simp only [Program.keyLits, Try.underlying3] at hc
            cases c with
            | int q n =>
              simp at hc
              exact ⟨n, by rw [hc.1.1]⟩
            | _ => simp at hc
          cases hx : Try.prog.keyLits (d + 1) 3 [c0] with
          | none => rw [hx] at hls; simp at hls
          | some x =>
            cases hy : Try.prog.keyLits (d + 1) 3 [c1] with
            | none => rw [hx, hy] at hls; simp at hls
            | some y =>
              obtain ⟨a, rfl⟩ := inv _ _ hx
              obtain ⟨b, rfl⟩ := inv _ _ hy
              exact ⟨a, b, rfl⟩
        · cases hls
    | _ => simp [Value.formed, Try.underlying84] at hf
  · cases h

theorem keyOf_link {p : Nat × Nat} (hp : Near p) : keyOf Try.prog 84 (linkV p) = some (linkLit p) := by
  have ha : (Lit.int .i64 (p.1 : Int)).wf = true := WalkArith.wf_i64 (by have := hp.1; omega)
  have hb : (Lit.int .i64 (p.2 : Int)).wf = true := WalkArith.wf_i64 (by have := hp.2; omega)
  have h1 : Try.prog.keyType 84 = true := by kernel_rfl
  have h2 : (Value.agg #[.int .i64 (p.1 : Int), .int .i64 (p.2 : Int)]).formed Try.prog 84 = true := by kernel_rfl
  obtain ⟨d, hd⟩ : ∃ d, Try.prog.types.size = d + 1 := ⟨Try.prog.types.size - 1, by have : 0 < Try.prog.types.size := of_decide_eq_true (by kernel_rfl); omega⟩
  unfold keyOf linkV
  rw [Try.underlying84]
  simp only [h1, h2, hd, Bool.and_self, if_true]
  rw [show (Value.agg #[.int .i64 (p.1 : Int), .int .i64 (p.2 : Int)]).cells.toList = [.int .i64 (p.1 : Int), .int .i64 (p.2 : Int)] from rfl, keyLits_link d ha hb]
  rfl
theorem linkV_inj {p q : Nat × Nat} (h : linkV p = linkV q) : p = q := by
  obtain ⟨a, b⟩ := p
  obtain ⟨c, d⟩ := q
  simp [linkV] at h
  simp; omega
theorem linkLit_inj {p q : Nat × Nat} (hp : Near p) (hq : Near q) (h : linkLit p = linkLit q) : p = q :=
  linkV_inj (linkLaw.inj (keyOf_link hp) (h ▸ keyOf_link hq))
theorem linkLit_key {p : Nat × Nat} (hp : Near p) : WideAt.IsKeyLit (linkLit p) := linkLaw.key (keyOf_link hp)

/-- block b is a map whose keys are the links of L, each once -/
def LinkMap (w : World) (b : Nat) (L : List (Nat × Nat)) : Prop :=
  L.Nodup ∧ (∀ p ∈ L, Near p) ∧ ∃ D : DataW Unit, w.ownsMap Try.prog 84 (plainElem Try.prog 4) b L.length D ∧ Maps.size D = L.length ∧ ∀ kl, Maps.has D kl = true ↔ ∃ p ∈ L, kl = linkLit p

theorem LinkMap.lt {w : World} {b : Nat} {L : List (Nat × Nat)} (h : LinkMap w b L) : b < w.heap.size := by
  obtain ⟨_, _, D, h1, _⟩ := h
  exact h1.lt
theorem LinkMap.kept {w w' : World} {b : Nat} {L : List (Nat × Nat)} {row : Option Nat} (h : LinkMap w b L) (hg : w.grownBy w' row) (hne : some b ≠ row) : LinkMap w' b L := by
  obtain ⟨h1, h2, D, h3, h4⟩ := h
  exact ⟨h1, h2, D, h3.kept hg hne, h4⟩
theorem LinkMap.made (w : World) : LinkMap (w.alloc (.map #[] 0)) w.heap.size [] :=
  ⟨List.nodup_nil, by simp, .map [], World.ownsMap_made w _ _ _, rfl, fun kl => by simp [Maps.has]⟩

theorem ownsMap_tight {w : World} {k : TypeId} {R : Value → Option (DataW Unit × List MemPlace)} {b n : Nat} {D : DataW Unit} (h : w.ownsMap Try.prog k R b n D) : w.ownsMap Try.prog k R b (Maps.size D) D := by
  obtain ⟨es, clock, hb, F, hs, rfl⟩ := h
  exact ⟨es, clock, hb, F, by simp [Maps.size, length_sorted], rfl⟩

/-- L with p, if it isn't there yet -/
def ins (p : Nat × Nat) (L : List (Nat × Nat)) : List (Nat × Nat) := if p ∈ L then L else L ++ [p]
theorem mem_ins {p q : Nat × Nat} {L : List (Nat × Nat)} : q ∈ ins p L ↔ q ∈ L ∨ q = p := by
  unfold ins
  split
  · constructor
    · exact .inl
    · rintro (h | h)
      · exact h
      · rw [h]; assumption
  · simp

theorem LinkMap.put1 {w w1 : World} {b : Nat} {L : List (Nat × Nat)} {p : Nat × Nat} {D : DataW Unit} (h : LinkMap w b L) (hp : Near p)
    (h3 : w.ownsMap Try.prog 84 (plainElem Try.prog 4) b L.length D) (h5 : ∀ kl, Maps.has D kl = true ↔ ∃ p ∈ L, kl = linkLit p) (h4 : Maps.size D = L.length)
    (hstep : w1.ownsMap Try.prog 84 (plainElem Try.prog 4) b (L.length + 1) (D.put (linkLit p) (.lit (.bool true)))) : LinkMap w1 b (ins p L) := by
  obtain ⟨h1, h2, _⟩ := h
  have h6 := ownsMap_tight hstep
  have hsz := Maps.size_put (h3.tidy linkLaw) (k := linkLit p) (.lit (.bool true))
  have hin : Maps.has D (linkLit p) = true ↔ p ∈ L := by
    rw [h5]
    constructor
    · rintro ⟨q, hq, e⟩
      rw [linkLit_inj hp (h2 q hq) e]; exact hq
    · exact fun h => ⟨p, h, rfl⟩
  have hlen : Maps.size (D.put (linkLit p) (.lit (.bool true))) = (ins p L).length := by
    rw [hsz, h4]
    unfold ins
    by_cases hm : p ∈ L
    · rw [if_pos (hin.2 hm), if_pos hm]
    · rw [if_neg (fun h => hm (hin.1 h)), if_neg hm]; simp
  refine ⟨?_, fun q hq => ?_, _, by rw [← hlen]; exact h6, hlen, fun kl => ?_⟩
  · unfold ins
    split
    · exact h1
    · rename_i hm
      rw [List.nodup_append]
      exact ⟨h1, by simp, fun a ha b hb e => hm (by rw [List.mem_singleton.1 hb] at e; rw [← e]; exact ha)⟩
  · rcases mem_ins.1 hq with h | h
    · exact h2 q h
    · rw [h]; exact hp
  · by_cases e : kl = linkLit p
    · subst e
      rw [Maps.has_put_same h3.isMap (linkLit_key hp)]
      exact ⟨fun _ => ⟨p, mem_ins.2 (.inr rfl), rfl⟩, fun _ => rfl⟩
    · rw [Maps.has_put_other e, h5]
      constructor
      · rintro ⟨q, hq, hk⟩; exact ⟨q, mem_ins.2 (.inl hq), hk⟩
      · rintro ⟨q, hq, hk⟩
        rcases mem_ins.1 hq with h | h
        · exact ⟨q, h, hk⟩
        · rw [h] at hk; exact absurd hk e
end Go.Proofs.Ytkffpipcjdhbaaa
