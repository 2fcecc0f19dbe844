/- What Kinds of the specification of layer 7 answers. -/
import Derived.Test.YtckofngclgkajaaTypK6
namespace Go.Proofs.Ytckofngclgkajaa
set_option maxRecDepth 100000
open Go.RowKit Go.Maps

def kindV (ks : List Int) : List Value := ks.map (Value.int .i64)
theorem own_ints {w : World} {B n : Nat} {v : Value} {ks : List Int} (h : w.ownsRow B 3 1 v n (kindV ks)) : ∃ a c, v = .slice a n c ∧ n = ks.length ∧ ((∀ k ∈ ks, I64 k) → IntsAt w a ks) := by
  have hl := h.1
  unfold kindV at hl
  rw [List.length_map] at hl
  rcases h.2 with ⟨rfl, rfl⟩ | ⟨g, cap, cur, rfl, hB, hg, h1, h2, _⟩
  · exact ⟨none, 0, rfl, by omega, fun _ => ⟨by omega, fun h0 => absurd h0 (by omega), fun z hz => by
      have : ks = [] := List.length_eq_zero_iff.1 (by omega)
      rw [this] at hz; cases hz⟩⟩
  · refine ⟨some ⟨g, 0, none⟩, cap, rfl, by omega, fun hf => ⟨by omega, fun h0 => ⟨g, 0, rfl, (Array.getElem?_eq_some_iff.1 hg).1, fun i hi => ?_⟩, hf⟩⟩
    have h3 := World.ownsRow.cellAt h i (by omega)
    rw [Nat.zero_add, h3]
    unfold kindV idA
    rw [List.getElem?_map, List.getElem?_eq_getElem hi, List.getD_eq_getElem?_getD, List.getElem?_eq_getElem hi]
    rfl
theorem Pbox.grownRow {s : ByteArray} {va ra : Option Addr} {n vc m rc : Nat} {w wr w2 : World} {r : Option Nat} (h : Pbox s va n vc ra m rc w wr) (hg : wr.grownBy w2 r) (hr : ∀ k, r = some k → w.heap.size + 1 ≤ k) : Pbox s va n vc ra m rc w w2 :=
  Below.grown (show Below (w.heap.size + 1) _ wr from h) hg (by have := Below.size h; simpa using this) hr
set_option maxHeartbeats 4000000 in
theorem kindsR_any (p : ProgV) (w : World) (hP : p.At w) (hv : p.vars.length ≤ 1000) :
    Calls Try.prog 48 #[p.value] w fun e w' => (∃ a c, e = .returned (.slice a p.vars.length c) ∧ IntsAt w' a (p.vars.map VarV.kind)) ∧ Below w.heap.size w w' := by
  obtain ⟨ks, hks⟩ : ∃ ks, ks = p.vars.map VarV.kind := ⟨_, rfl⟩
  rw [← hks]
  have hkl : ks.length = p.vars.length := by rw [hks, List.length_map]
  have HKf : Hid (∀ k ∈ ks, I64 k) := Lib.hid (fun k hk => by
    rw [hks] at hk
    obtain ⟨v, hv, rfl⟩ := List.mem_map.1 hk
    exact (hP.vars v hv).2.1)
  have HKa : Hid (∀ i, i < p.vars.length → (vA p.vars i).kind = idA ks i) := Lib.hid (fun i hi => by rw [hks, kinds_at hi])
  have HRv := Lib.hid (fun h => row_var hP.vrow h)
  have HTk : Hid (∀ i, i < ks.length → kindV (ks.take (i + 1)) = kindV (ks.take i) ++ [.int .i64 (idA ks i)]) := Lib.hid (fun i hi => by
    unfold kindV idA
    rw [List.take_succ_eq_append_getElem hi, List.map_append, List.getD_eq_getElem?_getD, List.getElem?_eq_getElem hi]
    rfl)
  have HAll : Hid (kindV (ks.take ks.length) = kindV ks) := Lib.hid (by rw [List.take_length])
  clear hks hP
  obtain ⟨nm, va, vc, vars, ra, rc, rules⟩ := p
  dsimp only at *
  unfold ProgV.value
  dsimp only
  generalize vars.length = nv at *
  generalize rules.length = nr at *
  have HKl := Lib.hid hkl
  rw [hkl] at HTk HAll
  clear hkl
  have hst : Pbox nm va nv vc ra nr rc w (w.alloc (.cells #[.string nm, .slice va nv vc, .slice ra nr rc] 33)) := Below.refl _ _
  have HSt := Lib.hid hst
  clear hst
  obtain ⟨i0, hi0, hz0, hz1, hz2⟩ := info_parts infoInt
  go_enter Try.func48, Try.ntmps48
  go_wp2
  go_loopw [3, 4] (fun tv t wr => ∃ i : Nat, t = .int .i64 i ∧ i ≤ nv ∧ Pbox nm va nv vc ra nr rc w wr ∧ wr.ownsRow (w.heap.size + 1) 3 1 tv i (kindV (ks.take i))) (fun _ t _ => nv - (intOf t).toNat)
  case atStart => exact ⟨0, rfl, Nat.zero_le _, HSt.out, World.ownsRow_nil _ _ _ _⟩
  case round =>
    obtain ⟨i, rfl, hi, hbx, hown⟩ := hrel
    have HBx := Lib.hid hbx
    have HOwn := Lib.hid hown
    have q1 := hbx.c1
    have hsz : w.heap.size + 1 ≤ wr.heap.size := by have := Below.size hbx; simpa using this
    clear hbx hown
    by_cases hlt : i < nv
    · have ilt : (i : Int) < (nv : Int) := by omega
      have i0' : (0 : Int) ≤ (i : Int) := by omega
      obtain ⟨b, o, rfl, hcell⟩ := HRv.out (by omega)
      have s1 := (hcell _ HBx.out.bel i hlt).2.1
      rw [HKa.out i hlt] at s1
      have htk := HTk.out i hlt
      have HTi := Lib.hid htk
      have HBA := Lib.hid (HBx.out.next (below_alloc7 wr (.cells #[.int .i64 (idA ks i)] 3)))
      have hown := HOwn.out
      obtain ⟨a1, c1, rfl, -⟩ := own_ints hown
      clear hcell htk
      generalize idA ks i = y at *
      go_wp2_with (at_builtin; refine wpList_append_own _ rfl (.tmp 12) (.tmp 19) 23 rfl (w.heap.size + 1) 3 i0 (.int .i64 0) 1 8 Try.underlying23 hi0 hz0 hz1 hz2 rfl (by decide) _ _ _ rfl (hown.alloc _) ⟨wr.heap.size, 0, none⟩ 1 1 [.int .i64 y] rfl rfl (fun j u hj => by
          match j with
          | 0 => simp at hj; subst hj; rw [add_none]; exact World.cell?_alloc_new wr _ _ 0
          | j + 1 => simp at hj) (fun x hx => by simp at hx; subst hx; rfl) (by unfold maxLen; omega) (by omega) (by simp; omega) ?_; intro v1 w1 hown1 hgrow1 hnil1)
      go_roundw
      case rel => exact ⟨i + 1, by go_num, by omega, HBA.out.grownRow hgrow1 (fun k hk => (hown.lt k hk).1), by rw [HTi.out]; exact hown1⟩
      case measure => simp [intOf]; omega
    · obtain rfl : nv = i := by omega
      have hown := HOwn.out
      rw [HAll.out] at hown
      obtain ⟨a1, c1, rfl, -, hint⟩ := own_ints hown
      have HI := Lib.hid (hint HKf.out)
      clear hown hint
      go_wp2
      go_ret
      exact ⟨⟨a1, c1, rfl, HI.out⟩, HBx.out.bel⟩
end Go.Proofs.Ytckofngclgkajaa
