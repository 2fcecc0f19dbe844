/- What the functions of package graph answer, fourth part: Valid, Degree. -/
import Derived.Test.YtfbbkiibhdgojaaGraph3
namespace Go.Proofs.Ytfbbkiibhdgojaa
open Go.RowKit

theorem validB_of {G : Gr} (h1 : 1 ≤ G.ps.length) (h24 : G.ps.length ≤ 24) (hl : G.ids.length = G.ps.length) (hid : idsOkB G.ids = true)
    (hlk : ∀ v : Nat, v < G.ps.length → LinksOk (rowA G.ps v) v G.ps.length) : validB G = matesOkB G := by
  cases hm : matesOkB G with
  | true => exact validB_mk ⟨h1, h24, hl, fun v hv => idsOkB_iff.1 hid v (by omega), hlk, matesOkB_iff.1 hm⟩
  | false =>
    refine validB_mkF fun h => ?_
    have := matesOkB_mk h.mate
    rw [hm] at this
    cases this

set_option maxHeartbeats 1000000 in
theorem valid_any (ia pa : Option Addr) (il ic pl pc : Nat) (G : Gr) (w : World) (hG : GraphAt w ia il pa pl G) :
    Calls Try.prog 18 #[.agg #[.slice ia il ic, .slice pa pl pc]] w fun e w' => e = .returned (.bool (validB G)) ∧ Below w.heap.size w w' := by
  have Hil := Lib.hid hG.il
  have Hpl := Lib.hid hG.pl
  by_cases h1 : pl < 1
  · have Hf := Lib.hid (validB_mkF (G := G) fun h => by have := Hpl.out; have := h.pos; omega)
    go_enter Try.func18, Try.ntmps18
    go_wp2
    go_ret
    exact ⟨ret_bool Hf.out.symm, (Below.refl _ _).alloc (Nat.le_refl _) _⟩
  by_cases h2 : 24 < pl
  · have Hf := Lib.hid (validB_mkF (G := G) fun h => by have := Hpl.out; have := h.le; omega)
    go_enter Try.func18, Try.ntmps18
    go_wp2
    go_ret
    exact ⟨ret_bool Hf.out.symm, (Below.refl _ _).alloc (Nat.le_refl _) _⟩
  by_cases h3 : il = pl
  rotate_left
  · have Hf := Lib.hid (validB_mkF (G := G) fun h => h3 (by have := Hpl.out; have := Hil.out; have := h.ids; omega))
    have e1 : ((il : Int) != (pl : Int)) = true := by rw [bne_iff_ne]; omega
    have e2 : ((il : Int) == (pl : Int)) = false := by rw [beq_eq_false_iff_ne]; omega
    clear h3
    go_enter Try.func18, Try.ntmps18
    go_wp2
    go_ret
    exact ⟨ret_bool Hf.out.symm, (Below.refl _ _).alloc (Nat.le_refl _) _⟩
  subst h3
  by_cases h4 : idsOkB G.ids = true
  rotate_left
  · have h4 : idsOkB G.ids = false := by simpa using h4
    have Hf := Lib.hid (validB_mkF (G := G) fun h => by
      have := idsOkB_mk (zs := G.ids) fun i hi => h.id i (by have := h.ids; omega)
      rw [h4] at this
      cases this)
    have hd : ∀ W, Below w.heap.size w W → Calls Try.prog 32 #[.slice ia il ic] W fun e w' => e = .returned (.bool (idsOkB G.ids)) ∧ Below W.heap.size W w' := fun W hW => by
      rw [Hil.out]; exact different_any _ _ _ _ (hG.ids.below hW)
    have HD := Lib.hid hd
    clear hd
    go_enter Try.func18, Try.ntmps18
    go_wp2_with (go_at_call 32; refine (HD.out _ ((Below.refl _ _).alloc (Nat.le_refl _) _)).mono ?_; rintro e w1 ⟨rfl, hb1⟩)
    go_ret
    exact ⟨ret_bool Hf.out.symm, ((Below.refl _ _).alloc (Nat.le_refl _) _).trans (hb1.mono (by simp))⟩
  have hd : ∀ W, Below w.heap.size w W → Calls Try.prog 32 #[.slice ia il ic] W fun e w' => e = .returned (.bool (idsOkB G.ids)) ∧ Below W.heap.size W w' := fun W hW => by
    rw [Hil.out]; exact different_any _ _ _ _ (hG.ids.below hW)
  have HD := Lib.hid hd
  clear hd
  obtain ⟨pb, po, rfl, hpb, hrow⟩ := hG.ports.row (by have := Hpl.out; omega)
  have Hrow := Lib.hid hrow
  clear hrow
  go_enter Try.func18, Try.ntmps18
  go_wp2_with (go_at_call 32; refine (HD.out _ ((Below.refl _ _).alloc (Nat.le_refl _) _)).mono ?_; rintro e w1 ⟨rfl, hb1⟩; have hbx : Below (w.heap.size + 1) (w.alloc (.cells #[.slice ia il ic, .slice (some ⟨pb, po, none⟩) il pc] 25)) w1 := hb1.mono (by simp); have hx1 : w1.cell? ⟨w.heap.size, 1, none⟩ = some (.slice (some ⟨pb, po, none⟩) il pc) := boxed hbx 1)
  go_loopw [31] (fun t wr => ∃ v : Nat, v ≤ il ∧ t = .int .i64 v ∧ Below (w.heap.size + 1) (w.alloc (.cells #[.slice ia il ic, .slice (some ⟨pb, po, none⟩) il pc] 25)) wr ∧ ∀ j, j < v → LinksOk (rowA G.ps j) j il) (fun t _ => il - (intOf t).toNat)
  case atStart => exact ⟨0, Nat.zero_le _, rfl, hbx, fun j hj => absurd hj (by omega)⟩
  case round =>
    clear hx1
    obtain ⟨v, hv, rfl, hbel, hn⟩ := hrel
    have Hn := Lib.hid hn
    clear hn
    by_cases hlt : v < il
    · obtain ⟨la, lc, hcl, hL⟩ := Hrow.out v (by have := Hpl.out; omega)
      have hcl := ((belBox hbel).cell (p := ⟨pb, po + v, none⟩) hpb).trans hcl
      have HL := Lib.hid (hL.below (belBox hbel))
      clear hL
      by_cases hs : linksOkB (rowA G.ps v) v il = true
      · go_wp2_with (go_at_call 33; refine (sound_any _ _ _ v il _ HL.out (by omega) hlt).mono ?_; rintro e w2 ⟨rfl, hb2⟩)
        go_roundw
        case rel => exact ⟨v + 1, by omega, by go_num, hbel.trans (hb2.mono (Nat.le_trans (by simp) hbel.size)), fun j hj => by
          rcases Nat.lt_or_ge j v with h | h
          · exact Hn.out j h
          · rw [show j = v by omega]; exact linksOkB_iff.1 hs⟩
        case measure => simp [intOf]; omega
      · have hs : linksOkB (rowA G.ps v) v il = false := by simpa using hs
        have Hf := Lib.hid (validB_mkF (G := G) fun h => by
          have := linksOkB_mk (h.links v (by have := Hpl.out; omega))
          rw [← Hpl.out, hs] at this
          cases this)
        go_wp2_with (go_at_call 33; refine (sound_any _ _ _ v il _ HL.out (by omega) hlt).mono ?_; rintro e w2 ⟨rfl, hb2⟩)
        go_ret
        exact ⟨ret_bool Hf.out.symm, (belBox hbel).trans (hb2.mono (belBox hbel).size)⟩
    · have Hall := Lib.hid (fun j (hj : j < il) => Hn.out j (by omega))
      have Hf := Lib.hid (validB_of (G := G) (by have := Hpl.out; omega) (by have := Hpl.out; omega) (by have := Hpl.out; have := Hil.out; omega) h4 fun v hv => by
        rw [← Hpl.out]; exact Hall.out v (by have := Hpl.out; omega))
      have hb0 : wr.cell? ⟨w.heap.size, 0, none⟩ = some (.slice ia il ic) := boxed hbel 0
      have hb1' : wr.cell? ⟨w.heap.size, 1, none⟩ = some (.slice (some ⟨pb, po, none⟩) il pc) := boxed hbel 1
      go_wp2_with (go_at_call 34; refine (agree_any _ _ _ _ _ _ G _ (hG.below (belBox hbel)) (by omega) (by omega) Hall.out).mono ?_; rintro e w2 ⟨rfl, hb2⟩)
      go_ret
      exact ⟨ret_bool Hf.out.symm, (belBox hbel).trans (hb2.mono (belBox hbel).size)⟩

/-- the number of links of node v, in a valid graph -/
noncomputable def degF (G : Gr) (v : Int) : Int := if validB G = true ∧ inB v 0 (G.ps.length - 1) = true then (rowA G.ps v.toNat).length else 0

set_option maxHeartbeats 400000 in
theorem degree_any (ia pa : Option Addr) (il ic pl pc : Nat) (G : Gr) (v : Int) (w : World) (hG : GraphAt w ia il pa pl G) :
    Calls Try.prog 16 #[.agg #[.slice ia il ic, .slice pa pl pc], .int .i64 v] w fun e w' => e = .returned (.int .i64 (degF G v)) ∧ Below w.heap.size w w' := by
  have Hpl := Lib.hid hG.pl
  cases hv : validB G with
  | false =>
    have Hf : Hid (degF G v = 0) := Lib.hid (by simp [degF, hv])
    go_enter Try.func16, Try.ntmps16
    go_wp2_with (go_at_call 18; refine (valid_any _ _ _ _ _ _ G _ (hG.alloc _)).mono ?_; rintro e w1 ⟨rfl, hb1⟩)
    go_ret
    exact ⟨ret_int Hf.out.symm, ((Below.refl _ _).alloc (Nat.le_refl _) _).trans (hb1.mono (by simp))⟩
  | true =>
    cases hi : inB v 0 (pl - 1) with
    | false =>
      have Hf : Hid (degF G v = 0) := Lib.hid (by rw [Hpl.out] at hi; simp [degF, hi])
      go_enter Try.func16, Try.ntmps16
      go_wp2_with (first | (go_at_call 18; refine (valid_any _ _ _ _ _ _ G _ (hG.alloc _)).mono ?_; rintro e w1 ⟨rfl, hb1⟩; have hbx : Below (w.heap.size + 1) (w.alloc (.cells #[.slice ia il ic, .slice pa pl pc] 25)) w1 := hb1.mono (by simp); have hx0 : w1.cell? ⟨w.heap.size, 0, none⟩ = some (.slice ia il ic) := boxed hbx 0; have hx1 : w1.cell? ⟨w.heap.size, 1, none⟩ = some (.slice pa pl pc) := boxed hbx 1) | (go_at_call 27; refine (has_any _ _ _ _ _ _ _ _).mono ?_; rintro e w2 ⟨rfl, hb2⟩))
      go_ret
      exact ⟨ret_int Hf.out.symm, (belBox hbx).trans (hb2.mono (belBox hbx).size)⟩
    | true =>
      have hb := inB_true hi
      obtain ⟨d, rfl⟩ : ∃ d : Nat, v = d := ⟨v.toNat, by omega⟩
      have hd : d < pl := by omega
      have Hf : Hid (degF G d = (rowA G.ps d).length) := Lib.hid (by rw [Hpl.out] at hi; simp [degF, hv, hi])
      obtain ⟨pb, po, rfl, hpb, hrow⟩ := hG.ports.row (by have := Hpl.out; omega)
      obtain ⟨la, lc, hcl, hL⟩ := hrow d (by have := Hpl.out; omega)
      clear hrow hb
      go_enter Try.func16, Try.ntmps16
      go_wp2_with (first | (go_at_call 18; refine (valid_any _ _ _ _ _ _ G _ (hG.alloc _)).mono ?_; rintro e w1 ⟨rfl, hb1⟩; have hbx : Below (w.heap.size + 1) (w.alloc (.cells #[.slice ia il ic, .slice (some ⟨pb, po, none⟩) pl pc] 25)) w1 := hb1.mono (by simp); have hx0 : w1.cell? ⟨w.heap.size, 0, none⟩ = some (.slice ia il ic) := boxed hbx 0; have hx1 : w1.cell? ⟨w.heap.size, 1, none⟩ = some (.slice (some ⟨pb, po, none⟩) pl pc) := boxed hbx 1) | (go_at_call 27; refine (has_any _ _ _ _ _ _ _ _).mono ?_; rintro e w2 ⟨rfl, hb2⟩; have hbx2 := hbx.trans (hb2.mono (Nat.le_trans (by simp) hbx.size)); have hx2 : w2.cell? ⟨w.heap.size, 1, none⟩ = some (.slice (some ⟨pb, po, none⟩) pl pc) := boxed hbx2 1; have hx3 := ((belBox hbx2).cell (p := ⟨pb, po + d, none⟩) hpb).trans hcl))
      go_ret
      exact ⟨ret_int Hf.out.symm, belBox hbx2⟩
end Go.Proofs.Ytfbbkiibhdgojaa
