/- What selfstabref01.Valid answers. -/
import Derived.Test.YtfbbkiibhdgojaaRef01
namespace Go.Proofs.Ytfbbkiibhdgojaa
open Go.RowKit

set_option maxHeartbeats 2000000 in
theorem refValid_any (ia pa : Option Addr) (il ic pl pc : Nat) (G : Gr) (w : World) (hG : GraphAt w ia il pa pl G) :
    Calls Try.prog 12 #[.agg #[.slice ia il ic, .slice pa pl pc]] w fun e w' => e = .returned (.bool (validB G)) ∧ Below w.heap.size w w' := by
  have hil := hG.il
  have hpl := hG.pl
  by_cases h1 : inB pl 1 24 = true
  rotate_left
  · have h1 : inB pl 1 24 = false := by simpa using h1
    have Hf := Lib.hid (validB_mkF (G := G) fun h => inB_false h1 (by have := h.pos; have := h.le; omega))
    clear hG hil hpl
    go_enter Try.func12, Try.ntmps12
    go_wp2_with (go_at_call 24; refine (in_any _ _ _ _).mono ?_; rintro e w' ⟨rfl, rfl⟩)
    go_ret
    exact ⟨ret_bool Hf.out.symm, (Below.refl _ _).alloc (Nat.le_refl _) _⟩
  by_cases h2 : il = pl
  rotate_left
  · have Hf := Lib.hid (validB_mkF (G := G) fun h => h2 (by have := h.ids; omega))
    have h3 : ((il : Int) != (pl : Int)) = true := by rw [bne_iff_ne]; omega
    have h3' : ((il : Int) == (pl : Int)) = false := by rw [beq_eq_false_iff_ne]; omega
    clear hG hil hpl h2
    go_enter Try.func12, Try.ntmps12
    go_wp2_with (go_at_call 24; refine (in_any _ _ _ _).mono ?_; rintro e w' ⟨rfl, rfl⟩)
    go_ret
    exact ⟨ret_bool Hf.out.symm, (Below.refl _ _).alloc (Nat.le_refl _) _⟩
  subst h2
  have hb := inB_true h1
  have h24 : il ≤ 24 := by omega
  have h01 : 1 ≤ il := by omega
  clear hb
  have Hil := Lib.hid hil
  have Hpl := Lib.hid hpl
  clear hil hpl
  obtain ⟨ib, io, rfl, hib, hidr⟩ := hG.ids.row (by have := Hil.out; omega)
  obtain ⟨pb, po, rfl, hpb, hrow⟩ := hG.ports.row (by have := Hpl.out; omega)
  have Hid' := Lib.hid hidr
  have Hrow := Lib.hid hrow
  clear hidr hrow
  go_enter Try.func12, Try.ntmps12
  go_wp2_with (go_at_call 24; refine (in_any _ _ _ _).mono ?_; rintro e w' ⟨rfl, rfl⟩)
  go_loopw [4] (fun t wr => ∃ v : Nat, v ≤ il ∧ t = .int .i64 v ∧ (∀ j, j < v → IdOk G.ids j ∧ LinksOk (rowA G.ps j) j il) ∧ Below (w.heap.size + 1) (w.alloc (.cells #[.slice (some ⟨ib, io, none⟩) il ic, .slice (some ⟨pb, po, none⟩) il pc] 25)) wr) (fun t _ => il - (intOf t).toNat)
  case atStart => exact ⟨0, Nat.zero_le _, rfl, fun j hj => absurd hj (by omega), Below.refl _ _⟩
  case round =>
    obtain ⟨v, hv, rfl, hn, hbel⟩ := hrel
    have Hn := Lib.hid hn
    clear hn
    have hb0 : wr.cell? ⟨w.heap.size, 0, none⟩ = some (.slice (some ⟨ib, io, none⟩) il ic) := boxed hbel 0
    have hb1 : wr.cell? ⟨w.heap.size, 1, none⟩ = some (.slice (some ⟨pb, po, none⟩) il pc) := boxed hbel 1
    by_cases hlt : v < il
    · have hci := ((belBox hbel).cell (p := ⟨ib, io + v, none⟩) hib).trans (Hid'.out v (by have := Hil.out; omega))
      obtain ⟨la, lc, hcl, hL⟩ := Hrow.out v (by have := Hpl.out; omega)
      have hcl := ((belBox hbel).cell (p := ⟨pb, po + v, none⟩) hpb).trans hcl
      have hL := hL.below (belBox hbel)
      by_cases hi : inB (idA G.ids v) 0 255 = true
      · by_cases hlen : (rowA G.ps v).length < il
        · by_cases hlo : linksOkB (rowA G.ps v) v il = true
          · have HL := Lib.hid hL
            clear hL
            go_wp2_with (first | (go_at_call 24; refine (in_any _ _ _ _).mono ?_; rintro e w' ⟨rfl, rfl⟩) | (go_at_call 25; refine (linksValid_any _ _ _ _ _ _ HL.out (by omega) (by omega)).mono ?_; rintro e w1 ⟨rfl, hb2⟩))
            have hbel1 := hbel.trans (hb2.mono (Nat.le_trans (by simp) hbel.size))
            clear hcl hci hb0 hb1
            obtain ⟨wo, rfl⟩ : ∃ wo : World, wo = wr := ⟨_, rfl⟩
            go_loopw [5] (fun t wr => ∃ u : Nat, u ≤ v ∧ t = .int .i64 u ∧ (∀ j, j < u → idA G.ids j ≠ idA G.ids v) ∧ Below (w.heap.size + 1) (w.alloc (.cells #[.slice (some ⟨ib, io, none⟩) il ic, .slice (some ⟨pb, po, none⟩) il pc] 25)) wr) (fun t _ => v - (intOf t).toNat)
            case atStart => exact ⟨0, Nat.zero_le _, rfl, fun j hj => absurd hj (by omega), hbel1⟩
            case round =>
              obtain ⟨u, hu, rfl, hn2, hbel2⟩ := hrel
              have Hn2 := Lib.hid hn2
              clear hn2
              have hb0 : wr.cell? ⟨w.heap.size, 0, none⟩ = some (.slice (some ⟨ib, io, none⟩) il ic) := boxed hbel2 0
              have hcv := ((belBox hbel2).cell (p := ⟨ib, io + v, none⟩) hib).trans (Hid'.out v (by have := Hil.out; omega))
              have hcu := ((belBox hbel2).cell (p := ⟨ib, io + u, none⟩) hib).trans (Hid'.out u (by have := Hil.out; omega))
              by_cases hlu : u < v
              · by_cases he : idA G.ids u = idA G.ids v
                · have h0 : (idA G.ids u == idA G.ids v) = true := by simpa using he
                  have Hf := Lib.hid (validB_mkF (G := G) fun h => (h.id v (by have := Hpl.out; omega)).2 u hlu he)
                  clear he
                  go_wp2
                  go_quiet (fail)
                  go_wp2
                  go_ret
                  exact ⟨ret_bool Hf.out.symm, belDraws (belBox hbel2) _⟩
                · have h0 : (idA G.ids u == idA G.ids v) = false := by simpa using he
                  have He := Lib.hid he
                  clear he
                  go_wp2
                  go_quiet (fail)
                  go_wp2
                  go_roundw
                  case rel => exact ⟨u + 1, by omega, by go_num, fun j hj => by
                    rcases Nat.lt_or_ge j u with h | h
                    · exact Hn2.out j h
                    · rw [show j = u by omega]; exact He.out, belDraws hbel2 _⟩
                  case measure => simp [intOf]; omega
              · go_wp2
                go_roundw
                case rel => exact ⟨v + 1, by omega, by go_num, fun j hj => by
                  rcases Nat.lt_or_ge j v with h | h
                  · exact Hn.out j h
                  · rw [show j = v by omega]
                    exact ⟨⟨inB_true hi, fun i hi => Hn2.out i (by omega)⟩, linksOkB_iff.1 hlo⟩, hbel2⟩
                case measure => simp [intOf]; omega
          · have hlo : linksOkB (rowA G.ps v) v il = false := by simpa using hlo
            have Hf := Lib.hid (validB_mkF (G := G) fun h => by
              have := linksOkB_mk (h.links v (by have := Hpl.out; omega))
              rw [← Hpl.out] at this
              rw [hlo] at this
              cases this)
            have HL := Lib.hid hL
            clear hL
            go_wp2_with (first | (go_at_call 24; refine (in_any _ _ _ _).mono ?_; rintro e w' ⟨rfl, rfl⟩) | (go_at_call 25; refine (linksValid_any _ _ _ _ _ _ HL.out (by omega) (by omega)).mono ?_; rintro e w1 ⟨rfl, hb2⟩))
            go_ret
            exact ⟨ret_bool Hf.out.symm, (belBox hbel).trans (hb2.mono (belBox hbel).size)⟩
        · have Hf := Lib.hid (validB_mkF (G := G) fun h => by
            have h2 := Hpl.out
            have h1 := h.links v (by omega)
            rw [← h2] at h1
            exact hlen (h1.len hlt))
          go_wp2_with (first | (go_at_call 24; refine (in_any _ _ _ _).mono ?_; rintro e w' ⟨rfl, rfl⟩))
          go_ret
          exact ⟨ret_bool Hf.out.symm, belBox hbel⟩
      · have hi : inB (idA G.ids v) 0 255 = false := by simpa using hi
        have Hf := Lib.hid (validB_mkF (G := G) fun h => inB_false hi (h.id v (by have := Hpl.out; omega)).1)
        go_wp2_with (first | (go_at_call 24; refine (in_any _ _ _ _).mono ?_; rintro e w' ⟨rfl, rfl⟩))
        go_ret
        exact ⟨ret_bool Hf.out.symm, belBox hbel⟩
    · have Hall := Lib.hid (fun j (hj : j < il) => Hn.out j (by omega))
      clear hb0 hb1
      go_wp2
      obtain ⟨wo, rfl⟩ : ∃ wo : World, wo = wr := ⟨_, rfl⟩
      go_loopw [6] (fun t wr => ∃ v : Nat, v ≤ il ∧ t = .int .i64 v ∧ (∀ j, j < v → ∀ i, i < (rowA G.ps j).length → MateOk G j i) ∧ Below (w.heap.size + 1) (w.alloc (.cells #[.slice (some ⟨ib, io, none⟩) il ic, .slice (some ⟨pb, po, none⟩) il pc] 25)) wr) (fun t _ => il - (intOf t).toNat)
      case atStart => exact ⟨0, Nat.zero_le _, rfl, fun j hj => absurd hj (by omega), hbel⟩
      case round =>
        clear hlt hv
        obtain ⟨v2, hv2, rfl, hn2, hbel2⟩ := hrel
        have Hn2 := Lib.hid hn2
        clear hn2
        by_cases hlt : v2 < il
        · go_wp2
          obtain ⟨w5, rfl⟩ : ∃ wo : World, wo = wr := ⟨_, rfl⟩
          go_loopw [7] (fun t wr => ∃ i : Nat, i ≤ (rowA G.ps v2).length ∧ t = .int .i64 i ∧ (∀ j, j < i → MateOk G v2 j) ∧ Below (w.heap.size + 1) (w.alloc (.cells #[.slice (some ⟨ib, io, none⟩) il ic, .slice (some ⟨pb, po, none⟩) il pc] 25)) wr) (fun t _ => (rowA G.ps v2).length - (intOf t).toNat)
          case atStart => exact ⟨0, Nat.zero_le _, rfl, fun j hj => absurd hj (by omega), hbel2⟩
          case round =>
            obtain ⟨i, hi, rfl, hn3, hbel3⟩ := hrel
            have Hn3 := Lib.hid hn3
            clear hn3
            have hb0 : wr.cell? ⟨w.heap.size, 0, none⟩ = some (.slice (some ⟨ib, io, none⟩) il ic) := boxed hbel3 0
            have hb1 : wr.cell? ⟨w.heap.size, 1, none⟩ = some (.slice (some ⟨pb, po, none⟩) il pc) := boxed hbel3 1
            obtain ⟨la, lc, hcl, hL⟩ := Hrow.out v2 (by have := Hpl.out; omega)
            have hcl := ((belBox hbel3).cell (p := ⟨pb, po + v2, none⟩) hpb).trans hcl
            have hL := hL.below (belBox hbel3)
            have hlm := hL.size
            unfold maxLen at hlm
            by_cases hli : i < (rowA G.ps v2).length
            · obtain ⟨lb, lo, rfl, hlb, hcs⟩ := hL.row (by omega)
              have hck1 := (hcs i hli).1
              have hck2 := (hcs i hli).2
              have hok := (Hall.out v2 hlt).2 i hli
              obtain ⟨d, hd⟩ : ∃ d : Nat, toA (rowA G.ps v2) i = d := ⟨(toA (rowA G.ps v2) i).toNat, by have := hok.1; omega⟩
              have hdl : d < il := by have := hok.1; omega
              rw [hd] at hck1
              have Hd := Lib.hid hd
              clear hd hok hcs
              have hz : w.heap.size + 1 ≤ wr.heap.size := by have := hbel3.size; simp at this; exact this
              have hz1 : w.heap.size < wr.heap.size := by omega
              have hz2 : pb < wr.heap.size := by omega
              obtain ⟨la', lc', hcd, hLd⟩ := Hrow.out d (by have := Hpl.out; omega)
              have Hcd := Lib.hid hcd
              have HLd := Lib.hid hLd
              clear hcd hLd hL
              have hG3 := hG.below (belBox hbel3)
              rcases portF_cases (rowA G.ps d) v2 with ⟨hp, hno⟩ | ⟨k, hk, hp, hto, _⟩
              · have hq : decide ((portF (rowA G.ps d) v2) < 0) = true := by rw [hp]; decide
                have Hf := Lib.hid (validB_mkF (G := G) fun h => by
                  have h9 := (h.mate v2 (by have := Hpl.out; omega) i hli).1
                  rw [Hd.out, Int.toNat_natCast, hp] at h9
                  omega)
                clear hno
                go_wp2_with (go_at_call 26; refine (port_any _ _ _ _ _ _ G d v2 _ (hG3.alloc _) hdl).mono ?_; rintro e w1 ⟨rfl, hb3⟩)
                go_quiet (fail)
                go_wp2
                go_ret
                exact ⟨ret_bool Hf.out.symm, belDraws ((belBox hbel3).trans (((Below.refl _ _).alloc (by omega) _).trans (hb3.mono (by simp; omega)))) _⟩
              · obtain ⟨ld, lo2, rfl, hld, hcs⟩ := (HLd.out.below (belBox hbel3)).row (by omega)
                have hcw := (hcs k hk).2
                have HCW := Lib.hid hcw
                clear hcs hcw
                have hq : decide ((k : Int) < 0) = false := by simp
                have hk1 : (k : Int) < (rowA G.ps d).length := by omega
                by_cases hw : wtA (rowA G.ps d) k = wtA (rowA G.ps v2) i
                · have hw1 : (wtA (rowA G.ps d) k != wtA (rowA G.ps v2) i) = false := by simp [hw]
                  have hw2 : (wtA (rowA G.ps d) k == wtA (rowA G.ps v2) i) = true := by simp [hw]
                  have Hm : MateOk G v2 i := by
                    unfold MateOk
                    rw [Hd.out, Int.toNat_natCast, hp, Int.toNat_natCast]
                    exact ⟨by omega, hw⟩
                  have Hm := Lib.hid Hm
                  clear hw hto
                  go_wp2_with (go_at_call 26; refine (port_any _ _ _ _ _ _ G d v2 _ (hG3.alloc _) hdl).mono ?_; rintro e w1 ⟨rfl, hb3⟩; have hbel4 := hbel3.trans (((Below.refl _ _).alloc hz _).trans (hb3.mono (by simp; omega))); have hc1 : w1.cell? ⟨w.heap.size, 1, none⟩ = some (.slice (some ⟨pb, po, none⟩) il pc) := boxed hbel4 1; have hl0 : w1.cell? ⟨wr.heap.size, 0, none⟩ = some (.int .i64 d) := (hb3.cell (p := ⟨wr.heap.size, 0, none⟩) (by simp)).trans (World.cell?_alloc_new _ _ _ _); have hl1 : w1.cell? ⟨wr.heap.size, 1, none⟩ = some (.int .i64 (wtA (rowA G.ps v2) i)) := (hb3.cell (p := ⟨wr.heap.size, 1, none⟩) (by simp)).trans (World.cell?_alloc_new _ _ _ _); have hc2 := ((belBox hbel4).cell (p := ⟨pb, po + d, none⟩) hpb).trans Hcd.out; have hc3 := ((((Below.refl _ _).alloc (Nat.le_refl _) _).trans (hb3.mono (by simp))).cell (p := ⟨ld, lo2 + k * 2 + 1, none⟩) hld).trans HCW.out)
                  go_quiet (fail)
                  go_wp2
                  go_roundw
                  case rel => exact ⟨i + 1, by omega, by go_num, fun j hj => by
                    rcases Nat.lt_or_ge j i with h | h
                    · exact Hn3.out j h
                    · rw [show j = i by omega]; exact Hm.out, belDraws hbel4 _⟩
                  case measure => simp [intOf]; omega
                · have hw1 : (wtA (rowA G.ps d) k != wtA (rowA G.ps v2) i) = true := by simp [hw]
                  have hw2 : (wtA (rowA G.ps d) k == wtA (rowA G.ps v2) i) = false := by simp [hw]
                  have Hf := Lib.hid (validB_mkF (G := G) fun h => by
                    have h9 := (h.mate v2 (by have := Hpl.out; omega) i hli).2
                    rw [Hd.out, Int.toNat_natCast, hp, Int.toNat_natCast] at h9
                    exact hw h9)
                  clear hw hto
                  go_wp2_with (go_at_call 26; refine (port_any _ _ _ _ _ _ G d v2 _ (hG3.alloc _) hdl).mono ?_; rintro e w1 ⟨rfl, hb3⟩; have hbel4 := hbel3.trans (((Below.refl _ _).alloc hz _).trans (hb3.mono (by simp; omega))); have hc1 : w1.cell? ⟨w.heap.size, 1, none⟩ = some (.slice (some ⟨pb, po, none⟩) il pc) := boxed hbel4 1; have hl0 : w1.cell? ⟨wr.heap.size, 0, none⟩ = some (.int .i64 d) := (hb3.cell (p := ⟨wr.heap.size, 0, none⟩) (by simp)).trans (World.cell?_alloc_new _ _ _ _); have hl1 : w1.cell? ⟨wr.heap.size, 1, none⟩ = some (.int .i64 (wtA (rowA G.ps v2) i)) := (hb3.cell (p := ⟨wr.heap.size, 1, none⟩) (by simp)).trans (World.cell?_alloc_new _ _ _ _); have hc2 := ((belBox hbel4).cell (p := ⟨pb, po + d, none⟩) hpb).trans Hcd.out; have hc3 := ((((Below.refl _ _).alloc (Nat.le_refl _) _).trans (hb3.mono (by simp))).cell (p := ⟨ld, lo2 + k * 2 + 1, none⟩) hld).trans HCW.out)
                  go_quiet (fail)
                  go_wp2
                  go_ret
                  exact ⟨ret_bool Hf.out.symm, belDraws (belBox hbel4) _⟩
            · go_wp2
              go_roundw
              case rel => exact ⟨v2 + 1, by omega, by go_num, fun j hj => by
                rcases Nat.lt_or_ge j v2 with h | h
                · exact Hn2.out j h
                · rw [show j = v2 by omega]
                  exact fun i' hi' => Hn3.out i' (by omega), hbel3⟩
              case measure => simp [intOf]; omega
        · have Hf := Lib.hid (validB_mk (G := G) ⟨by have := Hpl.out; omega, by have := Hpl.out; omega, by have := Hpl.out; have := Hil.out; omega,
            fun j hj => (Hall.out j (by have := Hpl.out; omega)).1, fun j hj => by have := (Hall.out j (by have := Hpl.out; omega)).2; rw [Hpl.out] at this; exact this,
            fun j hj => Hn2.out j (by have := Hpl.out; omega)⟩)
          go_wp2
          go_ret
          exact ⟨ret_bool Hf.out.symm, belBox hbel2⟩
end Go.Proofs.Ytfbbkiibhdgojaa
