/- What Size, Degree, Back, Neighbours and Independent of the specification answer. -/
import Derived.Test.YtdclfhekmgnaiaaTree
namespace Go.Proofs.Ytdclfhekmgnaiaa
open Go.RowKit

theorem degSum_le {G : Gr} (hV : ValidG G) : ∀ v, v ≤ G.ps.length → degSum G v ≤ v * 24
  | 0, _ => by simp [degSum]
  | v + 1, hv => by
    have h1 := degSum_le hV v (by omega)
    have h2 := (hV.links v (by omega)).len (by omega)
    have := hV.le
    unfold degSum
    omega

set_option maxHeartbeats 1000000 in
theorem refSize_any (ia pa : Option Addr) (il ic pl pc : Nat) (G : Gr) (w : World) (hG : GraphAt w ia il pa pl G) :
    Calls Try.prog 14 #[.agg #[.slice ia il ic, .slice pa pl pc]] w fun e w' => e = .returned (.tuple #[.int .i64 (nodesF G), .int .i64 (linksF G)]) ∧ Below w.heap.size w w' := by
  have Hpl := Lib.hid hG.pl
  cases hv : validB G with
  | false =>
    have Hf : Hid (nodesF G = 0) := Lib.hid (by simp [nodesF, hv])
    have Hf2 : Hid (linksF G = 0) := Lib.hid (by simp [linksF, hv])
    go_enter Try.func14, Try.ntmps14
    go_wp2_with (go_at_call 16; refine (refValid_any _ _ _ _ _ _ G _ (hG.alloc _)).mono ?_; rintro e w1 ⟨rfl, hb1⟩)
    go_ret2
    exact ⟨ret_two Hf.out.symm Hf2.out.symm, ((Below.refl _ _).alloc (Nat.le_refl _) _).trans (hb1.mono (by simp))⟩
  | true =>
    have HV := Lib.hid (validB_iff.1 hv)
    have hp1 : 1 ≤ pl := by have := HV.out.pos; have := Hpl.out; omega
    have hp24 : pl ≤ 24 := by have := HV.out.le; have := Hpl.out; omega
    have Hf : Hid (nodesF G = pl) := Lib.hid (by simp [nodesF, hv, Hpl.out])
    have Hf2 : Hid (linksF G = (allLinks G pl).length) := Lib.hid (by simp [linksF, hv, Hpl.out])
    obtain ⟨pb, po, rfl, hpb, hrow⟩ := hG.ports.row (by have := Hpl.out; omega)
    have Hrow := Lib.hid hrow
    clear hrow
    go_enter Try.func14, Try.ntmps14
    go_wp2_with (go_at_call 16; refine (refValid_any _ _ _ _ _ _ G _ (hG.alloc _)).mono ?_; rintro e w1 ⟨rfl, hb1⟩; have hbx : Below (w.heap.size + 1) (w.alloc (.cells #[.slice ia il ic, .slice (some ⟨pb, po, none⟩) pl pc] 25)) w1 := hb1.mono (by simp); have hx0 : w1.cell? ⟨w.heap.size, 0, none⟩ = some (.slice ia il ic) := boxed hbx 0; have hx1 : w1.cell? ⟨w.heap.size, 1, none⟩ = some (.slice (some ⟨pb, po, none⟩) pl pc) := boxed hbx 1)
    go_loop [4, 5] (fun f t => ∃ v : Nat, v ≤ pl ∧ f = .int .i64 (degSum G v) ∧ t = .int .i64 v) (fun _ t => pl - (intOf t).toNat)
    case atStart => exact ⟨0, Nat.zero_le _, rfl, rfl⟩
    case round =>
      obtain ⟨v, hv, rfl, rfl⟩ := hrel
      have hds := degSum_le HV.out v (by have := Hpl.out; omega)
      by_cases hlt : v < pl
      · obtain ⟨la, lc, hcl, hL⟩ := Hrow.out v (by have := Hpl.out; omega)
        have hcl := ((belBox hbx).cell (p := ⟨pb, po + v, none⟩) hpb).trans hcl
        have hlm := (HV.out.links v (by have := Hpl.out; omega)).len (by have := Hpl.out; omega)
        have hl24 : (rowA G.ps v).length < 24 := by have := HV.out.le; omega
        have Hs : Hid (degSum G (v + 1) = degSum G v + (rowA G.ps v).length) := Lib.hid rfl
        clear hL hlm
        generalize degSum G v = D at *
        go_wp2
        go_round
        case rel => exact ⟨v + 1, by omega, by rw [Hs.out]; go_num, by go_num⟩
        case measure => simp [intOf]; omega
      · have hsh : degSum G v = 2 * (allLinks G pl).length := by
          have := handshake HV.out
          rw [show v = pl by omega, Hpl.out]
          exact this
        rw [hsh] at hds ⊢
        generalize (allLinks G pl).length = m at *
        have hq : ((2 * m : Nat) : Int).tdiv 2 = m := by
          rw [show ((2 * m : Nat) : Int) = 2 * (m : Int) from by omega]
          exact Int.mul_tdiv_cancel_left _ (by decide)
        go_wp2
        go_ret2
        exact ⟨ret_two Hf.out.symm Hf2.out.symm, belBox hbx⟩

set_option maxHeartbeats 400000 in
theorem refDegree_any (ia pa : Option Addr) (il ic pl pc : Nat) (G : Gr) (v : Int) (w : World) (hG : GraphAt w ia il pa pl G) :
    Calls Try.prog 18 #[.agg #[.slice ia il ic, .slice pa pl pc], .int .i64 v] w fun e w' => e = .returned (.int .i64 (degF G v)) ∧ Below w.heap.size w w' := by
  have Hpl := Lib.hid hG.pl
  cases hv : validB G with
  | false =>
    have Hf : Hid (degF G v = 0) := Lib.hid (by simp [degF, hv])
    go_enter Try.func18, Try.ntmps18
    go_wp2_with (go_at_call 16; refine (refValid_any _ _ _ _ _ _ G _ (hG.alloc _)).mono ?_; rintro e w1 ⟨rfl, hb1⟩)
    go_ret
    exact ⟨ret_int Hf.out.symm, ((Below.refl _ _).alloc (Nat.le_refl _) _).trans (hb1.mono (by simp))⟩
  | true =>
    have hp24 : pl ≤ 24 := by have := (validB_iff.1 hv).le; have := Hpl.out; omega
    cases hi : inB v 0 (pl - 1) with
    | false =>
      have Hf : Hid (degF G v = 0) := Lib.hid (by rw [Hpl.out] at hi; simp [degF, hi])
      go_enter Try.func18, Try.ntmps18
      go_wp2_with (first | (go_at_call 16; refine (refValid_any _ _ _ _ _ _ G _ (hG.alloc _)).mono ?_; rintro e w1 ⟨rfl, hb1⟩; have hbx : Below (w.heap.size + 1) (w.alloc (.cells #[.slice ia il ic, .slice pa pl pc] 25)) w1 := hb1.mono (by simp); have hx0 : w1.cell? ⟨w.heap.size, 0, none⟩ = some (.slice ia il ic) := boxed hbx 0; have hx1 : w1.cell? ⟨w.heap.size, 1, none⟩ = some (.slice pa pl pc) := boxed hbx 1) | (go_at_call 44; refine (in_any v 0 (pl - 1) _).mono ?_; rintro e w2 ⟨rfl, rfl⟩; rw [hi]))
      go_ret
      exact ⟨ret_int Hf.out.symm, belBox hbx⟩
    | true =>
      have hb := inB_true hi
      obtain ⟨d, rfl⟩ : ∃ d : Nat, v = d := ⟨v.toNat, by omega⟩
      have hd : d < pl := by omega
      have Hf : Hid (degF G d = (rowA G.ps d).length) := Lib.hid (by rw [Hpl.out] at hi; simp [degF, hv, hi])
      obtain ⟨pb, po, rfl, hpb, hrow⟩ := hG.ports.row (by have := Hpl.out; omega)
      obtain ⟨la, lc, hcl, hL⟩ := hrow d (by have := Hpl.out; omega)
      clear hrow hb
      go_enter Try.func18, Try.ntmps18
      go_wp2_with (first | (go_at_call 16; refine (refValid_any _ _ _ _ _ _ G _ (hG.alloc _)).mono ?_; rintro e w1 ⟨rfl, hb1⟩; have hbx : Below (w.heap.size + 1) (w.alloc (.cells #[.slice ia il ic, .slice (some ⟨pb, po, none⟩) pl pc] 25)) w1 := hb1.mono (by simp); have hx0 : w1.cell? ⟨w.heap.size, 0, none⟩ = some (.slice ia il ic) := boxed hbx 0; have hx1 : w1.cell? ⟨w.heap.size, 1, none⟩ = some (.slice (some ⟨pb, po, none⟩) pl pc) := boxed hbx 1; have hx3 := ((belBox hbx).cell (p := ⟨pb, po + d, none⟩) hpb).trans hcl) | (go_at_call 44; refine (in_any d 0 (pl - 1) _).mono ?_; rintro e w2 ⟨rfl, rfl⟩; rw [hi]))
      go_ret
      exact ⟨ret_int Hf.out.symm, belBox hbx⟩
end Go.Proofs.Ytdclfhekmgnaiaa
