/- What the functions of package graph answer, fifth part: Back. -/
import Derived.Test.YtdclfhekmgnaiaaGraph4
namespace Go.Proofs.Ytdclfhekmgnaiaa
open Go.RowKit

theorem boxedA {w w' : World} {C D : Array Value} {t u : TypeId} (h : Below (w.heap.size + 2) ((w.alloc (.cells C t)).alloc (.cells D u)) w') (i : Nat) : w'.cell? ⟨w.heap.size, i, none⟩ = C[i]? :=
  (h.cell (p := ⟨w.heap.size, i, none⟩) (by simp)).trans (by simp)
theorem boxedB {w w' : World} {C D : Array Value} {t u : TypeId} (h : Below (w.heap.size + 2) ((w.alloc (.cells C t)).alloc (.cells D u)) w') (i : Nat) : w'.cell? ⟨w.heap.size + 1, i, none⟩ = D[i]? :=
  (h.cell (p := ⟨w.heap.size + 1, i, none⟩) (by simp)).trans (by
    have e := World.cell?_alloc_new (w.alloc (.cells C t)) D u i
    rw [show (w.alloc (.cells C t)).heap.size = w.heap.size + 1 from by simp] at e
    exact e)
theorem belBox2 {w w' : World} {o o2 : Obj} (h : Below (w.heap.size + 2) ((w.alloc o).alloc o2) w') : Below w.heap.size w w' :=
  ((((Below.refl _ _).alloc (Nat.le_refl _) o).alloc (by simp) o2).trans (h.mono (by omega)))

set_option maxHeartbeats 400000 in
theorem isTo_any (to wt v : Int) (vb : Nat) (w : World) (hv : w.cell? ⟨vb, 0, none⟩ = some (.int .i64 v)) (hlt : vb < w.heap.size) :
    Calls Try.prog 49 #[.agg #[.int .i64 to, .int .i64 wt], .pointer (some ⟨vb, 0, none⟩)] w fun e w' => e = .returned (.bool (to == v)) ∧ Below w.heap.size w w' := by
  go_enter Try.func49, Try.ntmps49
  go_wp2
  go_ret
  exact ⟨rfl, (Below.refl _ _).alloc (Nat.le_refl _) _⟩

set_option maxHeartbeats 400000 in
theorem indexTo_any (la : Option Addr) (lc : Nat) (xs : List (Int × Int)) (v : Int) (vb : Nat) (w : World) (hL : LinksAt w la xs) (hv : w.cell? ⟨vb, 0, none⟩ = some (.int .i64 v)) (hvb : vb < w.heap.size) :
    Calls Try.prog 48 #[.slice la xs.length lc, .func (Fn.func 49) #[] #[.pointer (some ⟨vb, 0, none⟩)]] w fun e w' => e = .returned (.int .i64 (portF xs v)) ∧ Below w.heap.size w w' := by
  have hlm := hL.size
  unfold maxLen at hlm
  go_enter Try.func48, Try.ntmps48
  go_wp2
  go_loopw [8] (fun t wr => ∃ k : Nat, k ≤ xs.length ∧ t = .int .i64 k ∧ (∀ j, j < k → toA xs j ≠ v) ∧ Below w.heap.size w wr) (fun t _ => xs.length - (intOf t).toNat)
  case atStart => exact ⟨0, Nat.zero_le _, rfl, fun j hj => absurd hj (by omega), Below.refl _ _⟩
  case round =>
    obtain ⟨k, hk, rfl, hn, hbel⟩ := hrel
    have Hn := Lib.hid hn
    have Hv := Lib.hid hv
    clear hn hv
    by_cases hlt : k < xs.length
    · obtain ⟨lb, lo, rfl, hlb, hcs⟩ := (hL.below hbel).row (by omega)
      have hck1 := (hcs k hlt).1
      have hck2 := (hcs k hlt).2
      clear hcs
      by_cases he : toA xs k = v
      · have h0 : (toA xs k == v) = true := by simpa using he
        have Hp := Lib.hid (portF_found hlt he Hn.out)
        clear he
        go_wp2_with (go_at_call 49; refine (isTo_any _ _ v vb _ ((hbel.cell (p := ⟨vb, 0, none⟩) hvb).trans Hv.out) (Nat.lt_of_lt_of_le hvb hbel.size)).mono ?_; rintro e w2 ⟨rfl, hb2⟩)
        go_ret
        exact ⟨ret_int Hp.out.symm, hbel.trans (hb2.mono hbel.size)⟩
      · have h0 : (toA xs k == v) = false := by simpa using he
        have He := Lib.hid he
        clear he
        go_wp2_with (go_at_call 49; refine (isTo_any _ _ v vb _ ((hbel.cell (p := ⟨vb, 0, none⟩) hvb).trans Hv.out) (Nat.lt_of_lt_of_le hvb hbel.size)).mono ?_; rintro e w2 ⟨rfl, hb2⟩)
        go_roundw
        case rel => exact ⟨k + 1, by omega, by go_num, fun j hj => by
          rcases Nat.lt_or_ge j k with h | h
          · exact Hn.out j h
          · rw [show j = k by omega]; exact He.out, hbel.trans (hb2.mono hbel.size)⟩
        case measure => simp [intOf]; omega
    · have Hp := Lib.hid (portF_none (xs := xs) (u := v) (fun j hj => Hn.out j (by omega)))
      go_wp2
      go_ret
      exact ⟨ret_int Hp.out.symm, hbel⟩

/-- the port by which the neighbour at port p of v leads back, or -1 -/
noncomputable def backF (G : Gr) (v p : Int) : Int :=
  if validB G = true ∧ inB v 0 (G.ps.length - 1) = true ∧ 0 ≤ p ∧ p < (rowA G.ps v.toNat).length then portF (rowA G.ps (toA (rowA G.ps v.toNat) p.toNat).toNat) v else -1

set_option maxHeartbeats 1000000 in
theorem back_any (ia pa : Option Addr) (il ic pl pc : Nat) (G : Gr) (v p : Int) (w : World) (hG : GraphAt w ia il pa pl G) :
    Calls Try.prog 19 #[.agg #[.slice ia il ic, .slice pa pl pc], .int .i64 v, .int .i64 p] w fun e w' => e = .returned (.int .i64 (backF G v p)) ∧ Below w.heap.size w w' := by
  have Hpl := Lib.hid hG.pl
  cases hv : validB G with
  | false =>
    have Hf : Hid (backF G v p = -1) := Lib.hid (by simp [backF, hv])
    go_enter Try.func19, Try.ntmps19
    go_wp2_with (go_at_call 15; refine (valid_any _ _ _ _ _ _ G _ (hG.below (((Below.refl _ _).alloc (Nat.le_refl _) _).alloc (by simp) _))).mono ?_; rintro e w1 ⟨rfl, hb1⟩; have hbx : Below (w.heap.size + 2) ((w.alloc (.cells #[.slice ia il ic, .slice pa pl pc] 25)).alloc (.cells #[.int .i64 v] 3)) w1 := hb1.mono (by simp); have hx0 : w1.cell? ⟨w.heap.size, 0, none⟩ = some (.slice ia il ic) := boxedA hbx 0; have hx1 : w1.cell? ⟨w.heap.size, 1, none⟩ = some (.slice pa pl pc) := boxedA hbx 1; have hx2 : w1.cell? ⟨w.heap.size + 1, 0, none⟩ = some (.int .i64 v) := boxedB hbx 0)
    go_ret
    exact ⟨ret_int Hf.out.symm, belBox2 hbx⟩
  | true =>
    cases hi : inB v 0 (pl - 1) with
    | false =>
      have Hf : Hid (backF G v p = -1) := Lib.hid (by rw [Hpl.out] at hi; simp [backF, hi])
      go_enter Try.func19, Try.ntmps19
      go_wp2_with (first | (go_at_call 15; refine (valid_any _ _ _ _ _ _ G _ (hG.below (((Below.refl _ _).alloc (Nat.le_refl _) _).alloc (by simp) _))).mono ?_; rintro e w1 ⟨rfl, hb1⟩; have hbx : Below (w.heap.size + 2) ((w.alloc (.cells #[.slice ia il ic, .slice pa pl pc] 25)).alloc (.cells #[.int .i64 v] 3)) w1 := hb1.mono (by simp); have hx0 : w1.cell? ⟨w.heap.size, 0, none⟩ = some (.slice ia il ic) := boxedA hbx 0; have hx1 : w1.cell? ⟨w.heap.size, 1, none⟩ = some (.slice pa pl pc) := boxedA hbx 1; have hx2 : w1.cell? ⟨w.heap.size + 1, 0, none⟩ = some (.int .i64 v) := boxedB hbx 0) | (go_at_call 47; refine (has_any _ _ _ _ _ _ _ _).mono ?_; rintro e w2 ⟨rfl, hb2⟩; have hbx2 := hbx.trans (hb2.mono (Nat.le_trans (by simp) hbx.size)); have hy1 : w2.cell? ⟨w.heap.size, 1, none⟩ = some (.slice pa pl pc) := boxedA hbx2 1; have hy2 : w2.cell? ⟨w.heap.size + 1, 0, none⟩ = some (.int .i64 v) := boxedB hbx2 0))
      go_ret
      exact ⟨ret_int Hf.out.symm, (belBox2 hbx2)⟩
    | true =>
      have hb := inB_true hi
      obtain ⟨d, rfl⟩ : ∃ d : Nat, v = d := ⟨v.toNat, by omega⟩
      have hd : d < pl := by omega
      obtain ⟨pb, po, rfl, hpb, hrow⟩ := hG.ports.row (by have := Hpl.out; omega)
      obtain ⟨la, lc, hcl, hL⟩ := hrow d (by have := Hpl.out; omega)
      clear hb
      have Hrow := Lib.hid hrow
      clear hrow
      by_cases hp0 : p < 0
      · have Hf : Hid (backF G d p = -1) := Lib.hid (by unfold backF; rw [if_neg (by omega)])
        go_enter Try.func19, Try.ntmps19
        go_wp2_with (first | (go_at_call 15; refine (valid_any _ _ _ _ _ _ G _ (hG.below (((Below.refl _ _).alloc (Nat.le_refl _) _).alloc (by simp) _))).mono ?_; rintro e w1 ⟨rfl, hb1⟩; have hbx : Below (w.heap.size + 2) ((w.alloc (.cells #[.slice ia il ic, .slice (some ⟨pb, po, none⟩) pl pc] 25)).alloc (.cells #[.int .i64 d] 3)) w1 := hb1.mono (by simp); have hx0 : w1.cell? ⟨w.heap.size, 0, none⟩ = some (.slice ia il ic) := boxedA hbx 0; have hx1 : w1.cell? ⟨w.heap.size, 1, none⟩ = some (.slice (some ⟨pb, po, none⟩) pl pc) := boxedA hbx 1; have hx2 : w1.cell? ⟨w.heap.size + 1, 0, none⟩ = some (.int .i64 d) := boxedB hbx 0) | (go_at_call 47; refine (has_any _ _ _ _ _ _ _ _).mono ?_; rintro e w2 ⟨rfl, hb2⟩; have hbx2 := hbx.trans (hb2.mono (Nat.le_trans (by simp) hbx.size)); have hy1 : w2.cell? ⟨w.heap.size, 1, none⟩ = some (.slice (some ⟨pb, po, none⟩) pl pc) := boxedA hbx2 1; have hy2 : w2.cell? ⟨w.heap.size + 1, 0, none⟩ = some (.int .i64 d) := boxedB hbx2 0; have hy3 := ((belBox2 hbx2).cell (p := ⟨pb, po + d, none⟩) hpb).trans hcl))
        go_ret
        exact ⟨ret_int Hf.out.symm, (belBox2 hbx2)⟩
      obtain ⟨k, rfl⟩ : ∃ k : Nat, p = k := ⟨p.toNat, by omega⟩
      by_cases hk : k < (rowA G.ps d).length
      rotate_left
      · have Hf : Hid (backF G d k = -1) := Lib.hid (by unfold backF; rw [if_neg (by rw [Int.toNat_natCast]; omega)])
        go_enter Try.func19, Try.ntmps19
        go_wp2_with (first | (go_at_call 15; refine (valid_any _ _ _ _ _ _ G _ (hG.below (((Below.refl _ _).alloc (Nat.le_refl _) _).alloc (by simp) _))).mono ?_; rintro e w1 ⟨rfl, hb1⟩; have hbx : Below (w.heap.size + 2) ((w.alloc (.cells #[.slice ia il ic, .slice (some ⟨pb, po, none⟩) pl pc] 25)).alloc (.cells #[.int .i64 d] 3)) w1 := hb1.mono (by simp); have hx0 : w1.cell? ⟨w.heap.size, 0, none⟩ = some (.slice ia il ic) := boxedA hbx 0; have hx1 : w1.cell? ⟨w.heap.size, 1, none⟩ = some (.slice (some ⟨pb, po, none⟩) pl pc) := boxedA hbx 1; have hx2 : w1.cell? ⟨w.heap.size + 1, 0, none⟩ = some (.int .i64 d) := boxedB hbx 0) | (go_at_call 47; refine (has_any _ _ _ _ _ _ _ _).mono ?_; rintro e w2 ⟨rfl, hb2⟩; have hbx2 := hbx.trans (hb2.mono (Nat.le_trans (by simp) hbx.size)); have hy1 : w2.cell? ⟨w.heap.size, 1, none⟩ = some (.slice (some ⟨pb, po, none⟩) pl pc) := boxedA hbx2 1; have hy2 : w2.cell? ⟨w.heap.size + 1, 0, none⟩ = some (.int .i64 d) := boxedB hbx2 0; have hy3 := ((belBox2 hbx2).cell (p := ⟨pb, po + d, none⟩) hpb).trans hcl))
        go_ret
        exact ⟨ret_int Hf.out.symm, (belBox2 hbx2)⟩
      have hV := validB_iff.1 hv
      have hlk := hV.links d (by have := Hpl.out; omega) k hk
      obtain ⟨u, hu⟩ : ∃ u : Nat, toA (rowA G.ps d) k = u := ⟨(toA (rowA G.ps d) k).toNat, by have := hlk.1; omega⟩
      have hul : u < pl := by have := hlk.1; have := Hpl.out; omega
      have Hf : Hid (backF G d k = portF (rowA G.ps u) d) := Lib.hid (by
        unfold backF
        rw [Int.toNat_natCast, Int.toNat_natCast, hu, Int.toNat_natCast, if_pos ⟨hv, by rw [← Hpl.out]; exact hi, by omega, by omega⟩])
      clear hlk hV
      obtain ⟨lb, lo, rfl, hlb, hcs⟩ := hL.row (by omega)
      have hck := (hcs k hk).1
      rw [hu] at hck
      obtain ⟨lu, luc, hcu, hLu⟩ := Hrow.out u (by have := Hpl.out; omega)
      have HLu := Lib.hid hLu
      have Hcu := Lib.hid hcu
      have Hck := Lib.hid hck
      clear hL hcs hu hck hLu hcu hp0
      go_enter Try.func19, Try.ntmps19
      go_wp2_with (first | (go_at_call 15; refine (valid_any _ _ _ _ _ _ G _ (hG.below (((Below.refl _ _).alloc (Nat.le_refl _) _).alloc (by simp) _))).mono ?_; rintro e w1 ⟨rfl, hb1⟩; have hbx : Below (w.heap.size + 2) ((w.alloc (.cells #[.slice ia il ic, .slice (some ⟨pb, po, none⟩) pl pc] 25)).alloc (.cells #[.int .i64 d] 3)) w1 := hb1.mono (by simp); have hx0 : w1.cell? ⟨w.heap.size, 0, none⟩ = some (.slice ia il ic) := boxedA hbx 0; have hx1 : w1.cell? ⟨w.heap.size, 1, none⟩ = some (.slice (some ⟨pb, po, none⟩) pl pc) := boxedA hbx 1; have hx2 : w1.cell? ⟨w.heap.size + 1, 0, none⟩ = some (.int .i64 d) := boxedB hbx 0) | (go_at_call 47; refine (has_any _ _ _ _ _ _ _ _).mono ?_; rintro e w2 ⟨rfl, hb2⟩; have hbx2 := hbx.trans (hb2.mono (Nat.le_trans (by simp) hbx.size)); have hy1 : w2.cell? ⟨w.heap.size, 1, none⟩ = some (.slice (some ⟨pb, po, none⟩) pl pc) := boxedA hbx2 1; have hy2 : w2.cell? ⟨w.heap.size + 1, 0, none⟩ = some (.int .i64 d) := boxedB hbx2 0; have hy3 := ((belBox2 hbx2).cell (p := ⟨pb, po + d, none⟩) hpb).trans hcl))
      have hy4 := ((belBox2 hbx2).cell (p := ⟨lb, lo + k * 2, none⟩) hlb).trans Hck.out
      have hy5 := ((belBox2 hbx2).cell (p := ⟨pb, po + u, none⟩) hpb).trans Hcu.out
      go_quiet (fail)
      go_wp2_with (go_at_call 48; refine (indexTo_any _ _ _ d _ _ (HLu.out.below (belDraws (belBox2 hbx2) _)) hy2 (by have := hbx2.size; simp at this; simp; omega)).mono ?_; rintro e w3 ⟨rfl, hb3⟩)
      go_ret
      exact ⟨ret_int Hf.out.symm, (belDraws (belBox2 hbx2) _).trans (hb3.mono (by have := (belBox2 hbx2).size; simp; omega))⟩
end Go.Proofs.Ytdclfhekmgnaiaa
