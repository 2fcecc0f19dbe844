/- What fair of layer 6's laws answers; the walks of ExprFormats and ExprReadsBack. -/
import Derived.Test.YtdbahiepihkagaaDoorExprLaw
import Derived.Deep.QuietTactic
import Derived.BigQuiet
namespace Go.Proofs.YtdbahiepihkagaaDoor
set_option maxRecDepth 100000
open Go.RowKit

def exT : Bytes := [109, 105, 110, 40, 113, 46, 100, 41, 43, 49]
def exN : List Bytes := [[100], [112]]
def exL : List (Int × Int) := [(33, 0), (24, 0), (12, 0), (1, 1)]
def exX : Ex := .bi (33, 0) (.un (24, 0) (.leaf (12, 0))) (.leaf (1, 1))
theorem ok_cons {w : Bytes} {t : Tk} {P : Pcs} {nx : Option UInt8} (h : tokF w = .inr t) (hl : t.len = w.length) (hj : ∀ b, headP P nx = some b → joint w b = true) (hP : okP P nx) : okP ((w, []) :: P) nx :=
  ⟨⟨⟨t, h, hl⟩, closed_nil, .inl rfl, fun _ => hj⟩, hP⟩
theorem ex_ok : okP [([109, 105, 110], []), ([40], []), ([113], []), ([46], []), ([100], []), ([41], []), ([43], []), ([49], [])] none := by
  refine ok_cons (t := ⟨1, 3, 0⟩) (by decide) rfl (fun b hb => ?_) (ok_cons (t := ⟨3, 1, 0⟩) (by decide) rfl (fun b hb => ?_) (ok_cons (t := ⟨1, 1, 0⟩) (by decide) rfl (fun b hb => ?_) (ok_cons (t := ⟨3, 1, 0⟩) (by decide) rfl (fun b hb => ?_) (ok_cons (t := ⟨1, 1, 0⟩) (by decide) rfl (fun b hb => ?_) (ok_cons (t := ⟨3, 1, 0⟩) (by decide) rfl (fun b hb => ?_) (ok_cons (t := ⟨3, 1, 0⟩) (by decide) rfl (fun b hb => ?_) (ok_cons (t := ⟨2, 1, 1⟩) (by decide) rfl (fun b hb => ?_) trivial)))))))
  all_goals first
    | (cases hb; done)
    | (injection hb with hb
       subst hb
       decide)
theorem ex_spell : Spell exN 1 ([([109, 105, 110], []), ([40], []), ([113], []), ([46], []), ([100], []), ([41], []), ([43], []), ([49], [])].map (Prod.fst (β := Bytes))) exL := by
  have h1 : Spell exN 8 [[113], [46], [100]] [(12, ((0 : Nat) : Int))] := .near (by decide) (by decide) (by decide)
  have h2 := Spell.agg (w := [109, 105, 110]) (by decide) (by decide) (by decide) (h1.lift (lv := 1) (by omega) (by omega) (by omega))
  have h3 : Spell exN 8 [[49]] [(1, ((numW [49] : Nat) : Int))] := .num (by decide)
  have h4 := Spell.bin (lv := 5) (w := [43]) (by omega) (by omega) (by omega) (by decide) (h2.lift (lv := 5) (by omega) (by omega) (by omega)) (h3.lift (lv := 6) (by omega) (by omega) (by omega))
  exact h4.lift (by omega) (by omega) (by omega)
theorem ex_parse : parseF exT exN = (exL, 0, 0) := parse_text (P := [([109, 105, 110], []), ([40], []), ([113], []), ([46], []), ([100], []), ([41], []), ([43], []), ([49], [])]) (by decide) ex_ok (by decide) (by decide) ex_spell (by decide +kernel)
theorem ex_fair : fairE exL exN = true := by decide +kernel
theorem ex_text : exX.text exN = [109, 105, 110, 40, 113, 46, 100, 41, 32, 43, 32, 49] := by
  have h : decB 1 = [49] := dec_small (by omega)
  have e : exX.text exN = [109, 105, 110, 40, 113, 46, 100, 41, 32, 43, 32] ++ decB 1 := rfl
  rw [e, h]
  rfl
theorem ex_wf : exX.wf := ⟨by decide, ⟨by decide, by show arF 12 = 0; decide⟩, by show arF 1 = 0; decide⟩
theorem names_lit (w : World) (t : TypeId) (ns : List Bytes) (C : Array Value) (h : C.toList = ns.map fun l => Value.string (mkS l)) (hn : ns.length ≤ 10) : NamesAt (w.alloc (.cells C t)) (some ⟨w.heap.size, 0, none⟩) ns := by
  refine ⟨by unfold maxLen; omega, fun _ => ⟨w.heap.size, 0, rfl, by simp, fun i hi => ?_⟩⟩
  rw [Nat.zero_add, World.cell?_alloc_new, ← Array.getElem?_toList, h, List.getElem?_map, List.getElem?_eq_getElem hi, List.getD_eq_getElem?_getD, List.getElem?_eq_getElem hi]
  rfl
theorem ex_i64 : ∀ x ∈ exL, I64 x.1 ∧ I64 x.2 := by
  intro x hx
  unfold I64
  simp [exL] at hx
  rcases hx with rfl | rfl | rfl | rfl <;> decide
theorem own_some {B n c : Nat} {w : World} {a : Option Addr} {xs : List (Int × Int)} (h : OwnT B w (.slice a n c) xs) (h0 : 0 < xs.length) : ∃ g, a = some ⟨g, 0, none⟩ ∧ B ≤ g ∧ g < w.heap.size := by
  obtain ⟨a', c', e, _, hg⟩ := h.shape
  injection e with e1 _ _
  subst e1
  exact hg h0
theorem own_cap {B n c : Nat} {w : World} {a : Option Addr} {xs : List (Int × Int)} (h : OwnT B w (.slice a n c) xs) : n ≤ c := by
  rcases h.2 with ⟨e, _⟩ | ⟨g, cap, cur, e, _, _, h1, h2, _⟩
  · injection e with _ e1 e2
    omega
  · injection e with _ e1 e2
    omega
set_option maxHeartbeats 2000000 in
theorem awake6_any (w : World) (hL6 : Lay6 w) : Calls Tryd.prog 5 #[] w fun e w' => e = .returned (.bool true) ∧ Below w.heap.size w w' := by
  have HP : Hid (∀ (a : Option Addr) (W : World), NamesAt W a exN → Below w.heap.size w W → Calls Tryd.prog 7 #[.string ⟨#[109, 105, 110, 40, 113, 46, 100, 41, 43, 49]⟩, .slice a 2 2] W fun e w' => (∃ g c, e = .returned (.tuple #[.slice (some ⟨g, 0, none⟩) 4 c, .int .i64 0, .int .i64 0]) ∧ OwnT W.heap.size w' (.slice (some ⟨g, 0, none⟩) 4 c) exL ∧ g < w'.heap.size ∧ 4 ≤ c) ∧ Below W.heap.size W w') := Lib.hid (fun a W hN hBW => by
    have h := parseP_any exT a 2 exN W hN (by decide) (by decide) (fits_short (by decide) _) (hL6.below hBW (Nat.le_refl _)).words
    rw [ex_parse] at h
    refine h.mono ?_
    rintro e w' ⟨⟨a', c', rfl, O⟩, hb⟩
    obtain ⟨g, rfl, _, hg⟩ := own_some O (by decide)
    exact ⟨⟨g, c', rfl, O, hg, own_cap O⟩, hb⟩)
  have HF : Hid (∀ (a b : Option Addr) (c : Nat) (W : World), LinksAt W a exL → NamesAt W b exN → 4 ≤ c → Below w.heap.size w W → Calls Tryd.prog 8 #[.slice a 4 c, .slice b 2 2] W fun e w' => e = .returned (.tuple #[.string ⟨#[109, 105, 110, 40, 113, 46, 100, 41, 32, 43, 32, 49]⟩, .int .i64 0]) ∧ Below W.heap.size W w') := Lib.hid (fun a b c W hX hN hcap hBW => by
    have h := formatP_ok a c exL b 2 exN W hX hN (by decide) ex_fair exX rfl ex_wf hcap (hL6.below hBW (Nat.le_refl _))
    rw [ex_text] at h
    exact h)
  go_enter Tryd.func5, Tryd.ntmps5
  go_wp2_with (first
    | (go_at_call 7; refine (HP.out _ _ (names_lit _ _ exN _ rfl (by decide)) (below_alloc6 _ _)).mono ?_; rintro e w1 ⟨⟨g, c, rfl, O, hg, hcap⟩, hb1⟩; have hB1 := (below_alloc6 _ _).trans (hb1.mono (below_alloc6 _ _).size))
    | (go_at_call 8; refine (HF.out _ _ _ _ ((O.links ex_i64).below (below_alloc6 _ _)) (names_lit _ _ exN _ rfl (by decide)) hcap (hB1.trans ((below_alloc6 _ _).mono hB1.size))).mono ?_; rintro e w2 ⟨rfl, hb2⟩; have hB2 := hB1.trans (((below_alloc6 _ _).trans (hb2.mono (below_alloc6 _ _).size)).mono hB1.size); have c0 : w2.cell? ⟨g, 0, none⟩ = some (.int .i64 33) := (((below_alloc6 _ _).trans (hb2.mono (below_alloc6 _ _).size)).cell (p := ⟨g, 0, none⟩) hg).trans (O.cells (i := 0) (by decide)).1))
  go_ret
  exact ⟨rfl, hB2⟩
end Go.Proofs.YtdbahiepihkagaaDoor
namespace Go.Proofs.YtdbahiepihkagaaDoor
set_option maxRecDepth 100000
open Go.RowKit

theorem parse_terms {T : Bytes} {ns : List Bytes} : ∀ t ∈ (parseF T ns).1, I64 t.1 ∧ I64 t.2 := by
  intro t ht
  unfold parseF at ht
  by_cases hg : goodF ns = false
  · rw [if_pos hg] at ht
    simp at ht
  · rw [if_neg hg] at ht
    cases hs : scanB T with
    | inl x => rw [hs] at ht; simp at ht
    | inr ts =>
      rw [hs] at ht
      dsimp only at ht
      unfold Env.answer at ht
      split at ht
      · simp at ht
      · split at ht
        · simp at ht
        · have := out_terms (ns := ns) hs (good_few (by simpa using hg)) t ht
          unfold I64
          omega
theorem parse_len {T : Bytes} {ns : List Bytes} (h : Fits6 T ns) : (parseF T ns).1.length ≤ 1000 := by
  unfold parseF
  split
  · simp
  · cases hs : scanB T with
    | inl x => simp
    | inr ts =>
      dsimp only
      unfold Env.answer
      split
      · simp
      · split
        · simp
        · exact h ts hs
end Go.Proofs.YtdbahiepihkagaaDoor
namespace Go.Proofs.YtdbahiepihkagaaDoor
set_option maxRecDepth 100000
open Go.RowKit

theorem light_ten {ns : List Bytes} (h : lightN ns = true) : ns.length ≤ 10 := by
  unfold lightN at h
  rw [Bool.and_eq_true, decide_eq_true_eq] at h
  exact h.1
/-- what Format answers, as one -/
def fmtSays (xs : List (Int × Int)) (ns : List Bytes) (T : Bytes) (f : Nat) : Prop := (fairE xs ns = false ∧ T = [] ∧ f = 7) ∨ (fairE xs ns = true ∧ f = 0 ∧ ∃ x : Ex, x.flat = xs ∧ x.wf ∧ T = x.text ns)
theorem fmt_ex (xs : List (Int × Int)) (ns : List Bytes) : ∃ T f, fmtSays xs ns T f := by
  cases h : fairE xs ns with
  | false => exact ⟨[], 7, .inl ⟨h, rfl, rfl⟩⟩
  | true =>
    obtain ⟨x, h1, h2, _⟩ := fair_tree h
    exact ⟨_, 0, .inr ⟨h, rfl, x, h1, h2, rfl⟩⟩
theorem formatP_any {T : Bytes} {f : Nat} (a : Option Addr) (c : Nat) (xs : List (Int × Int)) (na : Option Addr) (nc : Nat) (ns : List Bytes) (w : World) (hX : LinksAt w a xs) (hN : NamesAt w na ns) (hc : ns.length ≤ nc) (hn : ns.length ≤ 10) (hx : xs.length ≤ 250) (h : fmtSays xs ns T f) (hcap : xs.length ≤ c) (hL6 : Lay6 w) :
    Calls Tryd.prog 8 #[.slice a xs.length c, .slice na ns.length nc] w fun e w' => e = .returned (.tuple #[.string (mkS T), .int .i64 (f : Int)]) ∧ Below w.heap.size w w' := by
  rcases h with ⟨h, rfl, rfl⟩ | ⟨h, rfl, x, h1, h2, rfl⟩
  · exact formatP_bad a c xs na nc ns w hX hN hc hn hx h
  · exact formatP_ok a c xs na nc ns w hX hN hc h x h1 h2 hcap hL6
end Go.Proofs.YtdbahiepihkagaaDoor
