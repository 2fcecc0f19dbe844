/- What the functions that make a graph answer. -/
import Derived.Test.YtfbbkiibhdgojaaSteps
import Derived.Test.YtfbbkiibhdgojaaRef01
namespace Go.Proofs.Ytfbbkiibhdgojaa
open Go.RowKit

/-- what a function that makes a graph answers: the graph and OK, or no graph and an error -/
def famRet (a b : Value) (e : Int) : Ending := .returned (.tuple #[.agg #[a, b], .int .i64 e])
def FamSays (o : Int ⊕ Gr) (e : Ending) (w' : World) : Prop := match o with
  | .inl k => e = famRet (.slice none 0 0) (.slice none 0 0) k
  | .inr G => ∃ ia il ic pa pl pc, e = famRet (.slice ia il ic) (.slice pa pl pc) 0 ∧ GraphAt w' ia il pa pl G

/-! ### A graph of the call's own -/
def OwnG (B : Nat) (o : Int ⊕ Gr) (v1 v2 : Value) (k : Int) (w' : World) : Prop := match o with
  | .inl j => v1 = .slice none 0 0 ∧ v2 = .slice none 0 0 ∧ k = j
  | .inr G => k = 0 ∧ ∃ us : List (Value × List (Int × Int)), Apart B w' (idsR v1 G.ids :: hdrR v2 (us.map Prod.fst) :: us.map lnkR) ∧ G.ps = us.map Prod.snd ∧ FitG G
/-- the graph and OK in memory of the call's own, or no graph and an error -/
def FamOwn (B : Nat) (o : Int ⊕ Gr) (e : Ending) (w' : World) : Prop := ∃ a1 l1 c1 a2 l2 c2 k, e = famRet (.slice a1 l1 c1) (.slice a2 l2 c2) k ∧ OwnG B o (.slice a1 l1 c1) (.slice a2 l2 c2) k w'
theorem FamOwn.says {B : Nat} {o : Int ⊕ Gr} {e : Ending} {w' : World} (h : FamOwn B o e w') : FamSays o e w' := by
  obtain ⟨a1, l1, c1, a2, l2, c2, k, rfl, hO⟩ := h
  cases o with
  | inl j =>
    obtain ⟨h1, h2, rfl⟩ := hO
    rw [h1, h2]
    rfl
  | inr G =>
    obtain ⟨rfl, us, hA, hp, hF⟩ := hO
    obtain ⟨zs, ps⟩ := G
    dsimp only at hA hp hF
    subst hp
    obtain ⟨ia, ic, pa, pc, e1, e2, hG⟩ := apart_graph hA rfl hF
    rw [e1, e2]
    exact ⟨ia, _, ic, pa, _, pc, rfl, hG⟩
theorem OwnG.far {B r : Nat} {o : Int ⊕ Gr} {v1 v2 : Value} {k : Int} {w w' : World} (h : OwnG B o v1 v2 k w) (hg : w.grownBy w' (some r)) (hr : r < B) : OwnG B o v1 v2 k w' := by
  cases o with
  | inl j => exact h
  | inr G =>
    obtain ⟨h0, us, hA, hp, hF⟩ := h
    exact ⟨h0, us, hA.far hg (fun x hx => own_far (hA.own x hx) hr), hp, hF⟩
theorem OwnG.mono {B B' : Nat} {o : Int ⊕ Gr} {v1 v2 : Value} {k : Int} {w : World} (h : OwnG B o v1 v2 k w) (hB : B' ≤ B) : OwnG B' o v1 v2 k w := by
  cases o with
  | inl j => exact h
  | inr G =>
    obtain ⟨h0, us, hA, hp, hF⟩ := h
    exact ⟨h0, us, hA.mono hB, hp, hF⟩
theorem noFam {B : Nat} (k : Int) (w : World) : FamOwn B (.inl k) (famRet (.slice none 0 0) (.slice none 0 0) k) w := ⟨none, 0, 0, none, 0, 0, k, rfl, rfl, rfl, rfl⟩

def famG (n : Nat) (R : Nat → List (Int × Int)) : Gr := ⟨upTo n, (List.range n).map R⟩
theorem fam_done {w W wr : World} {gb n hb : Nat} {a1 : Option Addr} {q1 q2 : Nat} {R : Nat → List (Int × Int)} {us : List (Value × List (Int × Int))} {u0 u1 : Value}
    (hM : Made W gb wr (.slice a1 n q1) (.slice (some ⟨hb, 0, none⟩) n q2) (.slice a1 n q1) (upTo n) (.slice (some ⟨hb, 0, none⟩) n q2) (us.map Prod.fst) us) (hR : RowsR n (upR R n) us)
    (hW : W = w.alloc (.cells #[.slice none 0 0, .slice none 0 0] 25)) (hf : ∀ v, v < n → ∀ x ∈ R v, I64 x.1 ∧ I64 x.2) (hn : n ≤ 24) :
    FamOwn w.heap.size (.inr (famG n R)) (famRet (.slice a1 n q1) (.slice (some ⟨hb, 0, none⟩) n q2) 0) ((wr.setCell ⟨w.heap.size, 0, none⟩ u0).setCell ⟨w.heap.size, 1, none⟩ u1) ∧
      Below w.heap.size w ((wr.setCell ⟨w.heap.size, 0, none⟩ u0).setCell ⟨w.heap.size, 1, none⟩ u1) := by
  have hWs : W.heap.size = w.heap.size + 1 := by rw [hW]; simp
  refine ⟨⟨_, _, _, _, _, _, _, rfl, rfl, us, (hM.done (by omega) u0 u1).mono (by omega), hR.whole.symm, ?_, ?_⟩, hM.back (by rw [hW]; exact (Below.refl _ _).alloc (Nat.le_refl _) _) (Nat.le_refl _) _ _⟩
  · intro z hz
    obtain ⟨k, hk, rfl⟩ := List.mem_map.1 hz
    have hk : k < n := by simpa using hk
    exact ⟨by omega, by omega⟩
  · intro p hp
    obtain ⟨v, hv, rfl⟩ := List.mem_map.1 hp
    exact hf v (by simpa using hv)

/-- row k of a graph whose nodes u with c k u are linked to k: as far as u -/
def selR (c : Nat → Nat → Bool) (k u : Nat) : List (Int × Int) := ((List.range u).filter (c k)).map fun (u : Nat) => ((u : Int), (1 : Int))
theorem selR_zero (c : Nat → Nat → Bool) (k : Nat) : selR c k 0 = [] := rfl
theorem selR_take {c : Nat → Nat → Bool} {k u : Nat} (h : c k u = true) : selR c k (u + 1) = selR c k u ++ [((u : Int), 1)] := by simp [selR, List.range_succ, h]
theorem selR_skip {c : Nat → Nat → Bool} {k u : Nat} (h : c k u = false) : selR c k (u + 1) = selR c k u := by simp [selR, List.range_succ, h]
theorem selR_len (c : Nat → Nat → Bool) (k u : Nat) : (selR c k u).length ≤ u := by
  unfold selR
  rw [List.length_map]
  exact Nat.le_trans (List.length_filter_le _ _) (by simp)
theorem selR_fit (c : Nat → Nat → Bool) (n : Nat) (hn : n ≤ 24) : ∀ v, v < n → ∀ x ∈ selR c v n, I64 x.1 ∧ I64 x.2 := by
  intro v hv x hx
  obtain ⟨u, hu, rfl⟩ := List.mem_map.1 hx
  have : u < n := by simpa using (List.mem_filter.1 hu).1
  exact ⟨⟨by show _ ≤ (u : Int); omega, by show (u : Int) ≤ _; omega⟩, ⟨by simp, by simp⟩⟩
end Go.Proofs.Ytfbbkiibhdgojaa
