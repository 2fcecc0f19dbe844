/- What fair of layer 6's laws answers; the walks of ExprFormats and ExprReadsBack. -/
import Derived.Test.YtokmehjofboflaaDoorExprAwake
namespace Go.Proofs.YtokmehjofboflaaDoor
set_option maxRecDepth 100000
open Go.RowKit

theorem parse_terms {T : Bytes} {ns : List Bytes} : ∀ t ∈ (parseF T ns).1, I64 t.1 ∧ I64 t.2 := by
  intro t ht
  unfold parseF at ht
  by_cases hg : goodF ns = false
  · rw [if_pos hg] at ht
    simp at ht
  · rw [if_neg hg] at ht
    cases hs : scanB T with
    | inl x => rw [hs] at ht; simp at ht
    | inr ts =>
      rw [hs] at ht
      dsimp only at ht
      unfold Env.answer at ht
      split at ht
      · simp at ht
      · split at ht
        · simp at ht
        · have := out_terms (ns := ns) hs (good_few (by simpa using hg)) t ht
          unfold I64
          omega
theorem parse_len {T : Bytes} {ns : List Bytes} (h : Fits6 T ns) : (parseF T ns).1.length ≤ 1000 := by
  unfold parseF
  split
  · simp
  · cases hs : scanB T with
    | inl x => simp
    | inr ts =>
      dsimp only
      unfold Env.answer
      split
      · simp
      · split
        · simp
        · exact h ts hs
end Go.Proofs.YtokmehjofboflaaDoor
namespace Go.Proofs.YtokmehjofboflaaDoor
set_option maxRecDepth 100000
open Go.RowKit

theorem light_ten {ns : List Bytes} (h : lightN ns = true) : ns.length ≤ 10 := by
  unfold lightN at h
  rw [Bool.and_eq_true, decide_eq_true_eq] at h
  exact h.1
/-- what Format answers, as one -/
def fmtSays (xs : List (Int × Int)) (ns : List Bytes) (T : Bytes) (f : Nat) : Prop := (fairE xs ns = false ∧ T = [] ∧ f = 7) ∨ (fairE xs ns = true ∧ f = 0 ∧ ∃ x : Ex, x.flat = xs ∧ x.wf ∧ T = x.text ns)
theorem fmt_ex (xs : List (Int × Int)) (ns : List Bytes) : ∃ T f, fmtSays xs ns T f := by
  cases h : fairE xs ns with
  | false => exact ⟨[], 7, .inl ⟨h, rfl, rfl⟩⟩
  | true =>
    obtain ⟨x, h1, h2, _⟩ := fair_tree h
    exact ⟨_, 0, .inr ⟨h, rfl, x, h1, h2, rfl⟩⟩
theorem formatP_any {T : Bytes} {f : Nat} (a : Option Addr) (c : Nat) (xs : List (Int × Int)) (na : Option Addr) (nc : Nat) (ns : List Bytes) (w : World) (hX : LinksAt w a xs) (hN : NamesAt w na ns) (hc : ns.length ≤ nc) (hn : ns.length ≤ 10) (hx : xs.length ≤ 250) (h : fmtSays xs ns T f) (hcap : xs.length ≤ c) (hL6 : Lay6 w) :
    Calls Tryd.prog 8 #[.slice a xs.length c, .slice na ns.length nc] w fun e w' => e = .returned (.tuple #[.string (mkS T), .int .i64 (f : Int)]) ∧ Below w.heap.size w w' := by
  rcases h with ⟨h, rfl, rfl⟩ | ⟨h, rfl, x, h1, h2, rfl⟩
  · exact formatP_bad a c xs na nc ns w hX hN hc hn hx h
  · exact formatP_ok a c xs na nc ns w hX hN hc h x h1 h2 hcap hL6
end Go.Proofs.YtokmehjofboflaaDoor
