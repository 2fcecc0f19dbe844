/- Arguments of layer 5's laws: lists of terms with their capacity; a term. -/
import Derived.Test.YtckofngclgkajaaTermA
import Derived.ChangeMaps5
namespace Go.Proofs.Ytckofngclgkajaa
open Go.ChangeShapes Go.WideShapes Go.ChangeAt Go.RowKit Go.Deep Go.Joins
section
variable {H : Type} {enc : TypeId × Value → H} {P : Program} {w : World} {base : Nat} {spare : Nat → Bool} {held : Bool}
theorem links_cap {t e : TypeId} {fuel : Nat} {a : Option Addr} {l c : Nat} {x : DataW H × List MemPlace} (ht : P.underlying t = some (.slice e)) (h : DataW.trod enc P w base spare held fuel t [.slice a l c] = some x) : l ≤ c := by
  rcases open_slice ht h with ⟨hcs, _⟩ | ⟨a', len, cap, m, n, D, Pl, hcs, _, hl, _⟩
  · simp at hcs
    omega
  · simp at hcs
    omega
end
theorem open_term {H : Type} {enc : TypeId × Value → H} {w : World} {base : Nat} {spare : Nat → Bool} {held : Bool} {r : Reach} {b0 : Nat} {v : Value} {d : DataW H} {p : List MemPlace}
    (hv : Value.okWide Try.prog w r b0 38 v) (h : DataW.Trod enc Try.prog w base spare held 38 v d p) :
    ∃ x y, v = .agg #[.int .i64 x, .int .i64 y] ∧ (Lit.int IntKind.i64 x).wf = true ∧ (Lit.int IntKind.i64 y).wf = true := by
  obtain ⟨v0, v1, y0, y1, n, rfl, _, _, h0, h1⟩ := open_agg2 Try.underlying38 (by kernel_rfl) (by kernel_rfl) hv h
  obtain ⟨x, e0, _, w0⟩ := DataW.trod_int Try.underlying3 h0
  obtain ⟨y, e1, _, w1⟩ := DataW.trod_int Try.underlying3 h1
  simp at e0 e1
  exact ⟨x, y, by rw [e0, e1], w0, w1⟩
theorem wf_i64 {x : Int} (h : (Lit.int IntKind.i64 x).wf = true) : I64 x := by
  unfold I64
  simpa [Lit.wf, IntKind.min, IntKind.max, IntKind.bits, IntKind.signed] using h
theorem depF_pos {xs : List (Int × Int)} (h : oneB xs = true) : 0 < depF xs := by
  unfold depF
  rw [if_pos h]
  have hx := one_exs (oneB_iff.1 h)
  generalize (levF xs).1 = d at hx ⊢
  generalize (levF xs).2 = n at hx
  generalize hw : 1 = w at hx
  cases hx with
  | nil => cases hw
  | cons ha hb hc => omega
theorem valid_one {xs : List (Int × Int)} {vars : Int} (h : validE xs vars = true) : oneB xs = true := by
  unfold validE at h
  simp only [Bool.and_eq_true] at h
  exact h.1.1.1.2
theorem OwnT.bel {w w' : World} {B : Nat} {v : Value} {xs : List (Int × Int)} (h : OwnT B w v xs) (hb : Below w.heap.size w w') : OwnT B w' v xs := own_bel h hb
theorem ren_len {xs ys : List (Int × Int)} {zs : List Int} (h : renO xs zs = .inr ys) : ys.length = xs.length := by
  unfold renO at h
  split at h
  · split at h
    · injection h with h
      rw [← h]
      simp [renL]
    · cases h
  · cases h
theorem ren_fits {xs ys : List (Int × Int)} {zs : List Int} (h : renO xs zs = .inr ys) (hf : ∀ x ∈ xs, I64 x.1 ∧ I64 x.2) : ∀ y ∈ ys, I64 y.1 ∧ I64 y.2 := by
  unfold renO at h
  split at h
  case isTrue hv =>
    split at h
    case isTrue ha =>
      injection h with h
      rw [← h]
      intro y hy
      unfold renL at hy
      obtain ⟨x, hx, rfl⟩ := List.mem_map.1 hy
      obtain ⟨f1, f2⟩ := hf x hx
      unfold renT
      split
      · refine ⟨f1, ?_⟩
        show I64 (idA zs x.2.toNat)
        by_cases hlt : x.2.toNat < zs.length
        · rw [List.all_eq_true] at ha
          have h3 := ha zs[x.2.toNat] (List.getElem_mem hlt)
          have e : idA zs x.2.toNat = zs[x.2.toNat] := by simp [idA, hlt]
          rw [e]
          unfold I64
          simp at h3
          omega
        · have e : idA zs x.2.toNat = 0 := by simp [idA, Nat.le_of_not_lt hlt]
          rw [e]
          unfold I64
          decide
      · exact ⟨f1, f2⟩
    case isFalse ha => cases h
  case isFalse hv => cases h
theorem nil_links (w : World) : LinksAt w none [] := ⟨Nat.zero_le _, fun h => absurd h (by simp), fun x hx => by cases hx⟩
end Go.Proofs.Ytckofngclgkajaa
