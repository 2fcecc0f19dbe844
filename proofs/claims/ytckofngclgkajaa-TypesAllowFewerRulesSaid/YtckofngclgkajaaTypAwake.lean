/- The example of the chapter of layer 7; what awake of layer 7's laws answers. -/
import Derived.Test.YtckofngclgkajaaTypP5
namespace Go.Proofs.Ytckofngclgkajaa
set_option maxRecDepth 100000
open Go.RowKit

def exS : List (Int × Int) := [(23, 0), (35, 0), (12, 0), (17, 0)]
theorem exS_fits : ∀ x ∈ exS, I64 x.1 ∧ I64 x.2 := by
  intro x hx
  unfold exS at hx
  unfold I64
  simp at hx
  rcases hx with rfl | rfl | rfl | rfl <;> decide
theorem exS_says : OfSays exS [3] false 3 0 := .inr ⟨by decide +kernel, .un (23, 0) (.bi (35, 0) (.leaf (12, 0)) (.leaf (17, 0))), rfl, ⟨by decide, by decide, by show arF 12 = 0; decide, by show arF 17 = 0; decide⟩, by unfold Ex.args; decide, by decide, by decide⟩
theorem exS_tail : OfSays [(35, 0), (12, 0), (17, 0)] [3] false 0 6 := .inr ⟨by decide +kernel, .bi (35, 0) (.leaf (12, 0)) (.leaf (17, 0)), rfl, ⟨by decide, by show arF 12 = 0; decide, by show arF 17 = 0; decide⟩, by unfold Ex.args; decide, by decide, by decide⟩
theorem example7_any (w : World) : Calls Try.prog 27 #[] w fun e w' => (∃ g, e = .returned (.slice (some ⟨g, 0, none⟩) 4 4) ∧ LinksAt w' (some ⟨g, 0, none⟩) exS) ∧ Below w.heap.size w w' := by
  have hO := OwnT.lit w w.heap.size exS #[.int .i64 23, .int .i64 0, .int .i64 35, .int .i64 0, .int .i64 12, .int .i64 0, .int .i64 17, .int .i64 0] 4 rfl rfl (Nat.le_refl _) (by unfold exS maxLen; simp)
  have hB := (Below.refl w.heap.size w).alloc (Nat.le_refl _) (.cells #[.int .i64 23, .int .i64 0, .int .i64 35, .int .i64 0, .int .i64 12, .int .i64 0, .int .i64 17, .int .i64 0] 38)
  have HO := Lib.hid (hO.links exS_fits)
  have HO1 := Lib.hid ((hO.drew 1).links exS_fits)
  have HB := Lib.hid hB
  clear hO hB
  go_enter Try.func27, Try.ntmps27
  go_wp2
  go_ret
  exact ⟨⟨_, rfl, by first | exact HO.out | exact HO1.out⟩, by first | exact HB.out | exact belDraws HB.out 1⟩
theorem ints_lit (w : World) (t : TypeId) (zs : List Int) (C : Array Value) (h : C.toList = zs.map fun z => Value.int .i64 z) (hn : zs.length ≤ 1000) (hf : ∀ z ∈ zs, I64 z) : IntsAt (w.alloc (.cells C t)) (some ⟨w.heap.size, 0, none⟩) zs := by
  refine ⟨by unfold maxLen; omega, fun _ => ⟨w.heap.size, 0, rfl, by simp, fun i hi => ?_⟩, hf⟩
  rw [Nat.zero_add, World.cell?_alloc_new, ← Array.getElem?_toList, h, List.getElem?_map, List.getElem?_eq_getElem hi]
  unfold idA
  rw [List.getD_eq_getElem?_getD, List.getElem?_eq_getElem hi]
  rfl
theorem port_fits : ∀ z ∈ [(3 : Int)], I64 z := by
  intro z hz
  simp at hz
  subst hz
  unfold I64
  decide
set_option maxHeartbeats 2000000 in
theorem awake7_any (w : World) : Calls Try.prog 12 #[] w fun e w' => e = .returned (.bool true) ∧ Below w.heap.size w w' := by
  have HEx := Lib.hid (fun W => example7_any W)
  have HI := Lib.hid (fun W : World => ints_lit W 3 [3] #[.int .i64 3] rfl (by simp) port_fits)
  have HP1 := Lib.hid (fun (g : Nat) (ka : Option Addr) (W : World) (h : LinksAt W (some ⟨g, 0, none⟩) exS) (hK : IntsAt W ka [3]) => ofP_any (some ⟨g, 0, none⟩) 4 exS ka 1 [3] false W h hK (by unfold exS; simp) (by unfold exS; simp) exS_says)
  have HP2 := Lib.hid (fun (g : Nat) (ka : Option Addr) (W : World) (h : LinksAt W (some ⟨g, 0, none⟩) exS) (hK : IntsAt W ka [3]) => ofP_any (some ⟨g, 0 + 1 * 2, none⟩) 3 [(35, 0), (12, 0), (17, 0)] ka 1 [3] false W (LinksAt.part h (p := 1) (m := 3) (by unfold exS; simp)) hK (by simp) (by simp) exS_tail)
  go_enter Try.func12, Try.ntmps12
  go_wp2_with (first
    | (go_at_call 27; first
        | ((have _ := hB2); refine (HEx.out _).mono ?_; rintro e w3 ⟨⟨g3, rfl, hL3⟩, hb3⟩; have hB3 := hB2.trans (hb3.mono hB2.size))
        | (refine (HEx.out _).mono ?_; rintro e w1 ⟨⟨g1, rfl, hL1⟩, hb1⟩))
    | (go_at_call 13; first
        | ((have _ := hB3); refine (HP2.out _ _ _ (hL3.below (below_alloc7 _ _)) (HI.out _)).mono ?_; rintro e w4 ⟨rfl, hb4⟩; have hB4 := hB3.trans (((below_alloc7 _ _).trans (hb4.mono (below_alloc7 _ _).size)).mono hB3.size))
        | (refine (HP1.out _ _ _ (hL1.below (below_alloc7 _ _)) (HI.out _)).mono ?_; rintro e w2 ⟨rfl, hb2⟩; have hB2 := hb1.trans (((below_alloc7 _ _).trans (hb2.mono (below_alloc7 _ _).size)).mono hb1.size))))
  go_ret
  exact ⟨rfl, hB4⟩
end Go.Proofs.Ytckofngclgkajaa
