/- The reader's recursion: binary of the specification of layer 6, and all of it. -/
import Derived.Test.YtdbahiepihkagaaDoorCur
namespace Go.Proofs.YtdbahiepihkagaaDoor
set_option maxRecDepth 100000
open Go.RowKit

theorem boxed6 (w : World) (C : Array Value) (t : TypeId) (i : Nat) : (w.alloc (.cells C t)).cell? ⟨w.heap.size, i, none⟩ = C[i]? := World.cell?_alloc_new w C t i
theorem ret_slice6 {a : Option Addr} {n m c : Nat} (h : n = m) : Ending.returned (.slice a n c) = .returned (.slice a m c) := by rw [h]
theorem Step6.far {U : Sur} {w w' : World} {s : St} (h : PAt U w s) (hb : Below w.heap.size w w') : Step6 U w w' s := ⟨h.far hb, hb.os, hb.tape, hb.output, hb.size, fun k hk _ => hb.block k hk⟩
/-- lists are short -/
theorem run_short {U : Sur} (hU : U.Ok) {n : Nat} {g : Go6} {s : St} {o : Out} (h : U.env.run n g s = some o) (hs : s.i ≤ U.ts.length) (hg : g.base ≤ s.i) : o.1.length ≤ 4096 ∧ o.1.length ≤ o.2.i := by
  have f := run_fine U.env n g s o h
  have h1 := f.len
  have h2 := f.later.top (by rw [show U.env.ts.length = U.ts.length from env_len _ _ _]; exact hs)
  rw [show U.env.ts.length = U.ts.length from env_len _ _ _] at h2
  have := hU.few
  omega
end Go.Proofs.YtdbahiepihkagaaDoor
namespace Go.Proofs.YtdbahiepihkagaaDoor
set_option maxRecDepth 100000
open Go.RowKit

theorem look_pos {T : List (Bytes × Int)} (hT : T.all (fun x => decide (0 < x.2)) = true) {l : Bytes} (h : lookW T l ≠ 0) : 0 < lookW T l := by
  unfold lookW at h ⊢
  cases hf : T.find? fun x => x.1 == l with
  | none => rw [hf] at h; exact absurd rfl h
  | some x =>
    rw [List.all_eq_true] at hT
    have := hT x (List.mem_of_find?_eq_some hf)
    simpa using this
theorem fact_pos {l : Bytes} (h : factF l ≠ 0) : 0 < factF l := look_pos (by decide) h
theorem agg_pos {l : Bytes} (h : aggW l ≠ 0) : 0 < aggW l := look_pos (by decide) h
theorem field_pos {l : Bytes} (h : fieldF l ≠ 0) : 0 < fieldF l := look_pos (by decide) h
/-- one term, behind a word that is passed -/
theorem out_lit {U : Sur} {w w1 : World} {s : St} (h : Step6 U w w1 s) (hi : s.i < U.ts.length) (a b : Int) :
    Out6 U w ([(a, b)], s.adv) (.returned (.slice (some ⟨w1.heap.size, 0, none⟩) 1 1)) ((w1.setCell ⟨U.W.heap.size, 3, none⟩ (.int .i64 ((s.i : Int) + 1))).alloc (.cells #[.int .i64 a, .int .i64 b] 36)) :=
  ⟨_, _, rfl, lit6s h.at_ _ _ [(a, b)] #[.int .i64 a, .int .i64 b] 1 rfl rfl (by simp [maxLen]), (h.adv hi).alloc _⟩
theorem out_lit0 {U : Sur} {w w1 : World} {s : St} (h : Step6 U w w1 s) (a b : Int) :
    Out6 U w ([(a, b)], s) (.returned (.slice (some ⟨w1.heap.size, 0, none⟩) 1 1)) (w1.alloc (.cells #[.int .i64 a, .int .i64 b] 36)) :=
  ⟨_, _, rfl, lit6 h.at_ a b, h.alloc _⟩
theorem Out6.drew {U : Sur} {w w' : World} {o : Out} {e : Ending} (h : Out6 U w o e w') : Out6 U w o e w'.drew := by
  obtain ⟨a, c, he, O, S⟩ := h
  exact ⟨a, c, he, O.drew 1, S.trans (Step6.draws S.at_ 1)⟩
theorem word_here {U : Sur} {s : St} (h : U.env.word s ≠ []) : s.i < U.ts.length := by
  have := (in_of (V := U.env) h).2
  rwa [show U.env.ts.length = U.ts.length from env_len _ _ _] at this
theorem kind_here {U : Sur} {s : St} (h : U.env.kind s = 2) : s.i < U.ts.length := by
  have := (kind_in (V := U.env) (s := s) (by omega)).2
  rwa [show U.env.ts.length = U.ts.length from env_len _ _ _] at this
end Go.Proofs.YtdbahiepihkagaaDoor
namespace Go.Proofs.YtdbahiepihkagaaDoor
set_option maxRecDepth 100000
open Go.RowKit

/-- the reader's place, as the world holds it -/
def at6 (U : Sur) (w : World) : Nat := (intOf ((w.cell? ⟨U.W.heap.size, 3, none⟩).getD (.int .i64 0))).toNat
theorem at6_eq {U : Sur} {w : World} {s : St} (h : PAt U w s) : at6 U w = s.i := by
  unfold at6
  rw [h.c3]
  simp [intOf]
theorem OwnT.adv6 {U : Sur} {w w1 : World} {s : St} {v : Value} {xs : List (Int × Int)} (h : Step6 U w w1 s) (hi : s.i < U.ts.length) (O : OwnT (U.W.heap.size + 1) w1 v xs) : OwnT (U.W.heap.size + 1) (w1.setCell ⟨U.W.heap.size, 3, none⟩ (.int .i64 ((s.i : Int) + 1))) v xs :=
  O.step (⟨(h.adv hi).at_, grown_set6 _ _ _ _⟩ : Step6 U w1 _ s.adv)
end Go.Proofs.YtdbahiepihkagaaDoor
