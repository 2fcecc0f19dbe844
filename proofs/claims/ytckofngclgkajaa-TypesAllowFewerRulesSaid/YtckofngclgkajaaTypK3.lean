/- What the searches of Check of the program's types answer. -/
import Derived.Test.YtckofngclgkajaaTypK2
import Derived.Test.YtckofngclgkajaaTypInR
namespace Go.Proofs.Ytckofngclgkajaa
set_option maxRecDepth 100000
open Go.RowKit Go.Maps

theorem check1_any (v : VarV) (w : World) : Calls Try.prog 37 #[v.value] w fun e w' => e = .returned (.bool (!numbersF v)) ∧ Below w.heap.size w w' := by
  have HI := Lib.hid (fun W => inRangeP_any v W)
  generalize numbersF v = b at *
  unfold VarV.value at *
  obtain ⟨s, kind, lo, hi, pn, pid⟩ := v
  dsimp only at *
  go_enter Try.func37, Try.ntmps37
  go_wp2_with (go_at_call 38; refine (HI.out _).mono ?_; rintro e w1 ⟨rfl, hb1⟩)
  go_ret
  exact ⟨rfl, belT hb1⟩
def RuleV.value (r : RuleV) : Value := .agg #[.string r.name, .slice r.ga r.guard.length r.gc, .slice r.sa r.sets.length r.sc]
def RuleV.Few (r : RuleV) : Prop := r.guard.length ≤ 1000 ∧ ∀ s ∈ r.sets, s.val.length ≤ 1000
theorem check2_any (r : RuleV) (pb n vc : Nat) (va : Option Addr) (w : World) (hR : r.At w) (hn : n ≤ 1000) (hF : r.Few) (hc : w.cell? ⟨pb, 1, none⟩ = some (.slice va n vc)) (hpb : pb < w.heap.size) :
    Calls Try.prog 40 #[r.value, .pointer (some ⟨pb, 0, none⟩)] w fun e w' => e = .returned (.bool (!formedF r n)) ∧ Below w.heap.size w w' := by
  have HW := Lib.hid (fun W (hb : Below w.heap.size w W) => wellP_any r n W (hR.below hb) hn hF.1 hF.2)
  have hc2 : ∀ O, (w.alloc O).cell? ⟨pb, 1, none⟩ = some (.slice va n vc) := fun O => ((below_alloc7 w O).cell (p := ⟨pb, 1, none⟩) hpb).trans hc
  generalize formedF r n = b at *
  unfold RuleV.value
  obtain ⟨nm, ga, gc, guard, sa, sc, sets⟩ := r
  dsimp only at *
  clear hR hF
  generalize guard.length = gl at *
  generalize sets.length = m at *
  go_enter Try.func40, Try.ntmps40
  go_wp2_with (go_at_call 41; refine (HW.out _ (below_alloc7 _ _)).mono ?_; rintro e w1 ⟨rfl, hb1⟩)
  go_ret
  exact ⟨rfl, belT hb1⟩
theorem all_vA {ss : List VarV} {f : VarV → Bool} (h : ∀ i, i < ss.length → f (vA ss i) = true) : ss.all f = true := List.all_eq_true.2 fun y hy => by
  obtain ⟨i, hi, rfl⟩ := List.mem_iff_getElem.1 hy
  have := h i hi
  rwa [vA_eq hi] at this
theorem not_all_vA {ss : List VarV} {f : VarV → Bool} {i : Nat} (hi : i < ss.length) (h : f (vA ss i) = false) : ss.all f = false := by
  rw [Bool.eq_false_iff]
  intro ht
  have := List.all_eq_true.1 ht (vA ss i) (by rw [vA_eq hi]; exact List.getElem_mem hi)
  rw [h] at this
  cases this
theorem all_rA {ss : List RuleV} {f : RuleV → Bool} (h : ∀ i, i < ss.length → f (rA ss i) = true) : ss.all f = true := List.all_eq_true.2 fun y hy => by
  obtain ⟨i, hi, rfl⟩ := List.mem_iff_getElem.1 hy
  have := h i hi
  rwa [rA_eq hi] at this
theorem not_all_rA {ss : List RuleV} {f : RuleV → Bool} {i : Nat} (hi : i < ss.length) (h : f (rA ss i) = false) : ss.all f = false := by
  rw [Bool.eq_false_iff]
  intro ht
  have := List.all_eq_true.1 ht (rA ss i) (by rw [rA_eq hi]; exact List.getElem_mem hi)
  rw [h] at this
  cases this
set_option maxHeartbeats 1000000 in
theorem idxV_any (a : Option Addr) (c : Nat) (ss : List VarV) (w : World) (hR : RowAt 6 VarV.cells w a ss) (hl : ss.length ≤ 1000) :
    Calls Try.prog 66 #[.slice a ss.length c, .func (Fn.func 37) #[] #[]] w fun e w' => (∃ z : Int, e = .returned (.int .i64 z) ∧ decide (z ≥ 0) = !(ss.all numbersF)) ∧ Below w.heap.size w w' := by
  have HR := Lib.hid (fun h => row_var hR h)
  have HF := Lib.hid (fun i (hi : i < ss.length) W (hb : Below w.heap.size w W) => check1_any (vA ss i) W)
  have HBad := Lib.hid (fun i (hi : i < ss.length) (h : numbersF (vA ss i) = false) => not_all_vA (f := numbersF) hi h)
  have HOk := Lib.hid (fun (h : ∀ i, i < ss.length → numbersF (vA ss i) = true) => all_vA h)
  clear hR
  generalize hRR : ss.all numbersF = R at *
  clear hRR
  generalize ss.length = l at *
  go_enter Try.func66, Try.ntmps66
  go_wp2
  go_loopw [8] (fun t wr => ∃ k : Nat, k ≤ l ∧ t = .int .i64 k ∧ (∀ j, j < k → numbersF (vA ss j) = true) ∧ Below w.heap.size w wr) (fun t _ => l - (intOf t).toNat)
  case atStart => exact ⟨0, Nat.zero_le _, rfl, (fun j hj => absurd hj (by omega)), Below.refl _ _⟩
  case round =>
    obtain ⟨k, hk, rfl, hlow, hbl⟩ := hrel
    have HL := Lib.hid hlow
    have HBl := Lib.hid hbl
    clear hlow
    by_cases hlt : k < l
    · obtain ⟨b, o, rfl, hcell⟩ := HR.out (by omega)
      have hcs := hcell wr hbl k hlt
      obtain ⟨s0, s1, s2, s3, s4, s5⟩ := hcs
      have hf := HF.out k hlt wr hbl
      have klt : (k : Int) < (l : Int) := by omega
      have k0 : (0 : Int) ≤ (k : Int) := by omega
      clear hcell hbl
      cases hq : numbersF (vA ss k) with
      | false =>
        have hR := HBad.out k hlt hq
        subst hR
        rw [hq] at hf
        clear hq
        generalize vA ss k = y at *
        unfold VarV.value at hf
        go_wp2_with (go_at_call 37; refine hf.mono ?_; rintro e w1 ⟨rfl, hb1⟩)
        go_ret
        exact ⟨⟨_, rfl, by simp⟩, HBl.out.trans (hb1.mono HBl.out.size)⟩
      | true =>
        have HL2 : Hid (∀ j, j < k + 1 → numbersF (vA ss j) = true) := Lib.hid (fun j hj => by
          rcases Nat.lt_or_ge j k with h1 | h1
          · exact HL.out j h1
          · obtain rfl : j = k := by omega
            exact hq)
        rw [hq] at hf
        clear hq
        generalize vA ss k = y at *
        unfold VarV.value at hf
        go_wp2_with (go_at_call 37; refine hf.mono ?_; rintro e w1 ⟨rfl, hb1⟩)
        go_roundw
        case rel => exact ⟨k + 1, by omega, by go_num, HL2.out, HBl.out.trans (hb1.mono HBl.out.size)⟩
        case measure => simp [intOf]; omega
    · obtain rfl : l = k := by omega
      have hR := HOk.out HL.out
      subst hR
      go_wp2
      go_ret
      exact ⟨⟨_, rfl, by decide⟩, HBl.out⟩
theorem contV_any (a : Option Addr) (c : Nat) (ss : List VarV) (w : World) (hR : RowAt 6 VarV.cells w a ss) (hl : ss.length ≤ 1000) :
    Calls Try.prog 36 #[.slice a ss.length c, .func (Fn.func 37) #[] #[]] w fun e w' => e = .returned (.bool (!(ss.all numbersF))) ∧ Below w.heap.size w w' := by
  have HI := Lib.hid (idxV_any a c ss w hR hl)
  generalize (!(ss.all numbersF)) = b at HI ⊢
  generalize ss.length = l at HI ⊢
  clear hR hl
  go_enter Try.func36, Try.ntmps36
  go_wp2_with (go_at_call 66; refine HI.out.mono ?_; rintro e w1 ⟨⟨z, rfl, hz⟩, hb1⟩)
  go_ret
  exact ⟨by first | rfl | exact ret_bool hz, hb1⟩
set_option maxHeartbeats 1000000 in
theorem idxR_any (a : Option Addr) (c : Nat) (ss : List RuleV) (pb n vc : Nat) (va : Option Addr) (w : World) (hR : RowAt 3 RuleV.cells w a ss) (hA : ∀ r ∈ ss, r.At w) (hF : ∀ r ∈ ss, r.Few) (hn : n ≤ 1000) (hc : w.cell? ⟨pb, 1, none⟩ = some (.slice va n vc)) (hpb : pb < w.heap.size) (hl : ss.length ≤ 1000) :
    Calls Try.prog 68 #[.slice a ss.length c, .func (Fn.func 40) #[] #[.pointer (some ⟨pb, 0, none⟩)]] w fun e w' => (∃ z : Int, e = .returned (.int .i64 z) ∧ decide (z ≥ 0) = !(ss.all fun r => formedF r n)) ∧ Below w.heap.size w w' := by
  have HR := Lib.hid (fun h => row_rule hR h)
  have HF := Lib.hid (fun i (hi : i < ss.length) W (hb : Below w.heap.size w W) => check2_any (rA ss i) pb n vc va W (by rw [rA_eq hi]; exact (hA _ (List.getElem_mem hi)).below hb) hn (by rw [rA_eq hi]; exact hF _ (List.getElem_mem hi)) ((hb.cell (p := ⟨pb, 1, none⟩) hpb).trans hc) (Nat.lt_of_lt_of_le hpb hb.size))
  have HBad := Lib.hid (fun i (hi : i < ss.length) (h : formedF (rA ss i) n = false) => not_all_rA (f := fun r => formedF r n) hi h)
  have HOk := Lib.hid (fun (h : ∀ i, i < ss.length → formedF (rA ss i) n = true) => all_rA (f := fun r => formedF r n) h)
  clear hR hA hF hc hpb
  generalize hRR : (ss.all fun r => formedF r n) = R at *
  clear hRR
  generalize ss.length = l at *
  go_enter Try.func68, Try.ntmps68
  go_wp2
  go_loopw [8] (fun t wr => ∃ k : Nat, k ≤ l ∧ t = .int .i64 k ∧ (∀ j, j < k → formedF (rA ss j) n = true) ∧ Below w.heap.size w wr) (fun t _ => l - (intOf t).toNat)
  case atStart => exact ⟨0, Nat.zero_le _, rfl, (fun j hj => absurd hj (by omega)), Below.refl _ _⟩
  case round =>
    obtain ⟨k, hk, rfl, hlow, hbl⟩ := hrel
    have HL := Lib.hid hlow
    have HBl := Lib.hid hbl
    clear hlow
    by_cases hlt : k < l
    · obtain ⟨b, o, rfl, hcell⟩ := HR.out (by omega)
      have hcs := hcell wr hbl k hlt
      obtain ⟨s0, s1, s2⟩ := hcs
      have hf := HF.out k hlt wr hbl
      have klt : (k : Int) < (l : Int) := by omega
      have k0 : (0 : Int) ≤ (k : Int) := by omega
      clear hcell hbl
      cases hq : formedF (rA ss k) n with
      | false =>
        have hR := HBad.out k hlt hq
        subst hR
        rw [hq] at hf
        clear hq
        generalize rA ss k = y at *
        unfold RuleV.value at hf
        go_wp2_with (go_at_call 40; refine hf.mono ?_; rintro e w1 ⟨rfl, hb1⟩)
        go_ret
        exact ⟨⟨_, rfl, by simp⟩, HBl.out.trans (hb1.mono HBl.out.size)⟩
      | true =>
        have HL2 : Hid (∀ j, j < k + 1 → formedF (rA ss j) n = true) := Lib.hid (fun j hj => by
          rcases Nat.lt_or_ge j k with h1 | h1
          · exact HL.out j h1
          · obtain rfl : j = k := by omega
            exact hq)
        rw [hq] at hf
        clear hq
        generalize rA ss k = y at *
        unfold RuleV.value at hf
        go_wp2_with (go_at_call 40; refine hf.mono ?_; rintro e w1 ⟨rfl, hb1⟩)
        go_roundw
        case rel => exact ⟨k + 1, by omega, by go_num, HL2.out, HBl.out.trans (hb1.mono HBl.out.size)⟩
        case measure => simp [intOf]; omega
    · obtain rfl : l = k := by omega
      have hR := HOk.out HL.out
      subst hR
      go_wp2
      go_ret
      exact ⟨⟨_, rfl, by decide⟩, HBl.out⟩
theorem contR_any (a : Option Addr) (c : Nat) (ss : List RuleV) (pb n vc : Nat) (va : Option Addr) (w : World) (hR : RowAt 3 RuleV.cells w a ss) (hA : ∀ r ∈ ss, r.At w) (hF : ∀ r ∈ ss, r.Few) (hn : n ≤ 1000) (hc : w.cell? ⟨pb, 1, none⟩ = some (.slice va n vc)) (hpb : pb < w.heap.size) (hl : ss.length ≤ 1000) :
    Calls Try.prog 39 #[.slice a ss.length c, .func (Fn.func 40) #[] #[.pointer (some ⟨pb, 0, none⟩)]] w fun e w' => e = .returned (.bool (!(ss.all fun r => formedF r n))) ∧ Below w.heap.size w w' := by
  have HI := Lib.hid (idxR_any a c ss pb n vc va w hR hA hF hn hc hpb hl)
  generalize (!(ss.all fun r => formedF r n)) = b at HI ⊢
  generalize ss.length = l at HI ⊢
  clear hR hA hF hn hc hpb hl
  go_enter Try.func39, Try.ntmps39
  go_wp2_with (go_at_call 68; refine HI.out.mono ?_; rintro e w1 ⟨⟨z, rfl, hz⟩, hb1⟩)
  go_ret
  exact ⟨by first | rfl | exact ret_bool hz, hb1⟩
end Go.Proofs.Ytckofngclgkajaa
