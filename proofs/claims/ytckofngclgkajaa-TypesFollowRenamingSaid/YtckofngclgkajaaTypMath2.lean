/- The operands of a well-typed expression: valid and well-typed. No program in it. -/
import Derived.Test.YtckofngclgkajaaTypD
import Derived.Test.YtckofngclgkajaaTermGrow
namespace Go.Proofs.Ytckofngclgkajaa
set_option maxRecDepth 100000

def Ex.dep : Ex → Nat
  | .leaf _ => 1
  | .un _ a => a.dep + 1
  | .bi _ a b => max a.dep b.dep + 1
  | .cond _ c a b => max c.dep (max a.dep b.dep) + 1
def Ex.nes : Ex → Nat
  | .leaf t => 0 + aggN t.1
  | .un t a => a.nes + aggN t.1
  | .bi t a b => max a.nes b.nes + aggN t.1
  | .cond t c a b => max c.nes (max a.nes b.nes) + aggN t.1
theorem Ex.exs : ∀ x : Ex, x.wf → Exs 1 x.flat x.dep x.nes
  | .leaf _, h => Exs.grow (k := 0) h Exs.nil
  | .un _ a, h => Exs.grow (k := 1) h.1 (a.exs h.2)
  | .bi _ a b, h => Exs.grow (k := 2) h.1 ((a.exs h.2.1).snoc (b.exs h.2.2))
  | .cond _ c a b, h => Exs.grow (k := 3) h.1 ((c.exs h.2.1).snoc ((a.exs h.2.2.1).snoc (b.exs h.2.2.2)))
theorem valid_kid {x y : Ex} {v : Int} (hx : x.wf) (hy : y.wf) (hd : y.dep ≤ x.dep) (hn : y.nes ≤ x.nes) (hl : y.flat.length ≤ x.flat.length) (ha : y.args v) (h : validE x.flat v = true) : validE y.flat v = true := by
  rw [(x.exs hx).valid] at h
  rw [(y.exs hy).valid]
  simp only [Bool.and_eq_true, decide_eq_true_eq] at h ⊢
  exact ⟨⟨⟨by omega, by omega⟩, by omega⟩, ha⟩
/-- an operand of a well-typed expression -/
structure Kid (xs : List (Int × Int)) (ks : List Int) (b : Bool) (i : Nat) (q : Nat) (y : Ex) : Prop where
  opd : opdF xs 0 i = (q : Nat)
  sits : Sits xs q y
  wf : y.wf
  args : y.args ks.length
  ok : okT y.flat ks = true
  kind : y.kind ks b ≠ 0
theorem okT_of {xs ys : List (Int × Int)} {ks : List Int} (h : okT xs ks = true) (hv : validE ys ks.length = true) : okT ys ks = true := by
  unfold okT at h ⊢
  simp only [Bool.and_eq_true] at h ⊢
  exact ⟨h.1, h.2.1, hv⟩
theorem agg_no7 {op : Int} (h : 30 ≤ op) : aggF op = false := by
  unfold aggF
  rw [decide_eq_false_iff_not]
  omega
theorem kid_at {x : Ex} {ks : List Int} {b : Bool} (hw : x.wf) (ha : x.args ks.length) (hok : okT x.flat ks = true) (h0 : x.kind ks b ≠ 0) (i : Nat) (hi : (i : Int) < arF x.top.1) : ∃ q y, Kid x.flat ks (b || aggF x.top.1) i q y := by
  have hv := (okT_parts hok).2.2
  have hs : Sits x.flat 0 x := ⟨[], by simp⟩
  cases x with
  | leaf t =>
    have : arF t.1 = 0 := hw
    have hi' : (i : Int) < arF t.1 := hi
    omega
  | un t a =>
    have hi' : (i : Int) < arF t.1 := hi
    have hr := hw.1
    obtain rfl : i = 0 := by omega
    have ha2 := (Ex.args_un ha).2
    refine ⟨1, a, ⟨(opd_place (k := 0) hs hw hi).trans rfl, hs.un, hw.2, ha2, okT_of hok (valid_kid hw hw.2 ?_ ?_ ?_ ha2 hv), kind_un h0⟩⟩
    · simp [Ex.dep]
    · simp [Ex.nes]
    · simp [Ex.flat]
  | bi t a d =>
    have hi' : (i : Int) < arF t.1 := hi
    have hr := hw.1
    have ha2 := (Ex.args_bi ha).2
    have hk := kind_bi h0
    have hg : aggF t.1 = false := agg_no7 (ar_bi7 hr).1
    rw [show (Ex.bi t a d).top = t from rfl, hg, Bool.or_false]
    have hi2 : i = 0 ∨ i = 1 := by omega
    rcases hi2 with rfl | rfl
    · refine ⟨1, a, ⟨(opd_place (k := 0) hs hw hi).trans rfl, hs.bi1, hw.2.1, ha2.1, okT_of hok (valid_kid hw hw.2.1 ?_ ?_ ?_ ha2.1 hv), hk.1⟩⟩
      · simp [Ex.dep]; omega
      · simp [Ex.nes]; omega
      · simp [Ex.flat]; omega
    · refine ⟨0 + 1 + a.flat.length, d, ⟨opd_bi hs hw, hs.bi2, hw.2.2, ha2.2, okT_of hok (valid_kid hw hw.2.2 ?_ ?_ ?_ ha2.2 hv), hk.2⟩⟩
      · simp [Ex.dep]; omega
      · simp [Ex.nes]; omega
      · simp [Ex.flat]; omega
  | cond t c a d =>
    have hi' : (i : Int) < arF t.1 := hi
    have hr := hw.1
    have ha2 := (Ex.args_cond ha).2
    have hk := kind_cond h0
    have hg : aggF t.1 = false := by
      refine agg_no7 ?_
      have := arF_le t.1
      have h3 : arF t.1 = 3 := hr
      unfold arF at h3
      repeat' split at h3
      all_goals omega
    rw [show (Ex.cond t c a d).top = t from rfl, hg, Bool.or_false]
    have hi2 : i = 0 ∨ i = 1 ∨ i = 2 := by omega
    rcases hi2 with rfl | rfl | rfl
    · refine ⟨1, c, ⟨(opd_place (k := 0) hs hw hi).trans rfl, hs.c1, hw.2.1, ha2.1, okT_of hok (valid_kid hw hw.2.1 ?_ ?_ ?_ ha2.1 hv), hk.1⟩⟩
      · simp [Ex.dep]; omega
      · simp [Ex.nes]; omega
      · simp [Ex.flat]; omega
    · refine ⟨0 + 1 + c.flat.length, a, ⟨opd_c2 hs hw, hs.c2, hw.2.2.1, ha2.2.1, okT_of hok (valid_kid hw hw.2.2.1 ?_ ?_ ?_ ha2.2.1 hv), hk.2.1⟩⟩
      · simp [Ex.dep]; omega
      · simp [Ex.nes]; omega
      · simp [Ex.flat]; omega
    · refine ⟨0 + 1 + c.flat.length + a.flat.length, d, ⟨opd_c3 hs hw, hs.c3, hw.2.2.2, ha2.2.2, okT_of hok (valid_kid hw hw.2.2.2 ?_ ?_ ?_ ha2.2.2 hv), hk.2.2⟩⟩
      · simp [Ex.dep]; omega
      · simp [Ex.nes]; omega
      · simp [Ex.flat]; omega
/-- what Of answers for an operand -/
theorem Kid.says {xs : List (Int × Int)} {ks : List Int} {b : Bool} {i q : Nat} {y : Ex} (h : Kid xs ks b i q y) : OfSays y.flat ks b (y.kind ks b) 0 ∧ 1 ≤ y.kind ks b ∧ y.kind ks b ≤ 3 := by
  have hr := kind_range (okT_parts h.ok).2.1 y b h.args
  have h0 := h.kind
  refine ⟨.inr ⟨h.ok, y, rfl, h.wf, h.args, ?_, ?_⟩, by omega, by omega⟩
  · unfold outK; rw [if_neg h0]
  · unfold outK; rw [if_neg h0]
end Go.Proofs.Ytckofngclgkajaa
