/- Rows of tokens read again, Same, and what every law of layer 4 asks: the example. -/
import Derived.Test.YtebhfcjkaoldmaaLexW
import Derived.Deep.QuietTactic
namespace Go.Proofs.Ytebhfcjkaoldmaa
open Go.RowKit

/-- the i-th token -/
def tkA (ts : List Tok) (i : Nat) : Tok := ts.getD i ⟨0, 0, 0, 0⟩
theorem tkA_get {ts : List Tok} {i : Nat} (h : i < ts.length) : ts[i]? = some (tkA ts i) := by
  unfold tkA
  rw [List.getD_eq_getElem?_getD, List.getElem?_eq_getElem h]
  rfl
/-- A row of tokens. -/
structure TokAt (w : World) (a : Option Addr) (ts : List Tok) : Prop where
  size : ts.length ≤ maxLen
  row : 0 < ts.length → ∃ b, a = some ⟨b, 0, none⟩ ∧ b < w.heap.size ∧ ∀ i, i < ts.length →
    w.cell? ⟨b, i * 4, none⟩ = some (.int .i64 (tkA ts i).kind) ∧ w.cell? ⟨b, i * 4 + 1, none⟩ = some (.int .i64 (tkA ts i).at_) ∧
    w.cell? ⟨b, i * 4 + 2, none⟩ = some (.int .i64 (tkA ts i).end_) ∧ w.cell? ⟨b, i * 4 + 3, none⟩ = some (.int .i64 (tkA ts i).num)
theorem TokAt.below {w w' : World} {B : Nat} {a : Option Addr} {ts : List Tok} (h : TokAt w a ts) (hb : Below B w w') (hB : B = w.heap.size) : TokAt w' a ts := by
  subst hB
  refine ⟨h.size, fun h0 => ?_⟩
  obtain ⟨b, ha, hlt, hc⟩ := h.row h0
  exact ⟨b, ha, Nat.lt_of_lt_of_le hlt hb.size, fun i hi => ⟨(hb.cell (p := ⟨b, i * 4, none⟩) hlt).trans (hc i hi).1, (hb.cell (p := ⟨b, i * 4 + 1, none⟩) hlt).trans (hc i hi).2.1, (hb.cell (p := ⟨b, i * 4 + 2, none⟩) hlt).trans (hc i hi).2.2.1, (hb.cell (p := ⟨b, i * 4 + 3, none⟩) hlt).trans (hc i hi).2.2.2⟩⟩
theorem tokCells_at : ∀ {ts : List Tok} {i : Nat}, i < ts.length → (tokCells ts)[i * 4]? = some (.int .i64 (tkA ts i).kind) ∧ (tokCells ts)[i * 4 + 1]? = some (.int .i64 (tkA ts i).at_) ∧ (tokCells ts)[i * 4 + 2]? = some (.int .i64 (tkA ts i).end_) ∧ (tokCells ts)[i * 4 + 3]? = some (.int .i64 (tkA ts i).num)
  | t :: ts, 0, _ => ⟨rfl, rfl, rfl, rfl⟩
  | t :: ts, i + 1, h => by
    have ih := tokCells_at (ts := ts) (i := i) (by simpa using h)
    have e : tokCells (t :: ts) = .int .i64 (t.kind : Int) :: .int .i64 (t.at_ : Int) :: .int .i64 (t.end_ : Int) :: .int .i64 (t.num : Int) :: tokCells ts := rfl
    have e2 : tkA (t :: ts) (i + 1) = tkA ts i := rfl
    rw [e, e2, show (i + 1) * 4 = i * 4 + 1 + 1 + 1 + 1 by omega]
    exact ih
theorem tok_own {base : Nat} {w : World} {v : Value} {ts : List Tok} (h : TokRow base w v ts) : ∃ a c, v = .slice a ts.length c ∧ TokAt w a ts ∧ ts.length ≤ c := by
  have h' := h
  unfold TokRow at h'
  rcases h'.2 with ⟨rfl, h2⟩ | ⟨g, cap, cur, rfl, _, hg, h1, h2, _⟩
  · have hz : ts.length = 0 := by simpa using h2
    rw [hz]
    exact ⟨none, 0, rfl, ⟨by omega, fun h0 => absurd h0 (by omega)⟩, Nat.le_refl _⟩
  · refine ⟨some ⟨g, 0, none⟩, cap, rfl, ⟨by omega, fun _ => ⟨g, rfl, (Array.getElem?_eq_some_iff.1 hg).1, fun i hi => ?_⟩⟩, by omega⟩
    obtain ⟨e0, e1, e2, e3⟩ := tokCells_at hi
    have c0 := own_cell h' e0
    have c1 := own_cell h' e1
    have c2 := own_cell h' e2
    have c3 := own_cell h' e3
    rw [Nat.zero_add] at c0 c1 c2 c3
    exact ⟨c0, c1, c2, c3⟩

set_option maxHeartbeats 2000000 in
theorem same_any (a1 a2 : Option Addr) (c1 c2 : Nat) (ts : List Tok) (w : World) (h1 : TokAt w a1 ts) (h2 : TokAt w a2 ts) :
    Calls Try.prog 13 #[.slice a1 ts.length c1, .slice a2 ts.length c2] w fun e w' => e = .returned (.bool true) ∧ Below w.heap.size w w' := by
  have hlm := h1.size
  unfold maxLen at hlm
  go_enter Try.func13, Try.ntmps13
  go_wp2
  go_loopw [5] (fun t wr => ∃ k : Nat, k ≤ ts.length ∧ t = .int .i64 k ∧ Below w.heap.size w wr) (fun t _ => ts.length - (intOf t).toNat)
  case atStart => exact ⟨0, Nat.zero_le _, rfl, Below.refl _ _⟩
  case round =>
    obtain ⟨k, hk, rfl, hbel⟩ := hrel
    by_cases hlt : k < ts.length
    · obtain ⟨b1, rfl, hb1, hc1⟩ := (h1.below hbel rfl).row (by omega)
      obtain ⟨b2, rfl, hb2, hc2⟩ := (h2.below hbel rfl).row (by omega)
      obtain ⟨x0, x1, x2, x3⟩ := hc1 k hlt
      obtain ⟨y0, y1, y2, y3⟩ := hc2 k hlt
      have hl0 : (0 : Int) ≤ k := by omega
      have hl1 : (k : Int) < ts.length := by omega
      have hsz := hbel.size
      clear hc1 hc2
      go_wp2_with fail
      go_quiet (fail)
      go_wp2
      go_roundw
      case rel => exact ⟨k + 1, by omega, by go_num, belDraws hbel _⟩
      case measure => simp [intOf]; omega
    · go_wp2
      go_ret
      exact ⟨rfl, hbel⟩
end Go.Proofs.Ytebhfcjkaoldmaa
