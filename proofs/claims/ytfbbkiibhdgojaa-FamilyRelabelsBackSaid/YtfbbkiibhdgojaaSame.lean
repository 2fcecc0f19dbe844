/- What Same of the specification of layer 1 answers. -/
import Derived.Test.YtfbbkiibhdgojaaRef01V
import Derived.Test.YtfbbkiibhdgojaaGraph5
namespace Go.Proofs.Ytfbbkiibhdgojaa
open Go.RowKit

open Classical in
noncomputable def sameB (A B : Gr) : Bool := decide (A.ids = B.ids ∧ A.ps = B.ps)
theorem sameB_mk {A B : Gr} (h1 : A.ids = B.ids) (h2 : A.ps = B.ps) : sameB A B = true := by unfold sameB; exact decide_eq_true ⟨h1, h2⟩
theorem sameB_not {A B : Gr} (h : ¬ (A.ids = B.ids ∧ A.ps = B.ps)) : sameB A B = false := by unfold sameB; exact decide_eq_false h
theorem ids_ext {xs ys : List Int} (hl : xs.length = ys.length) (h : ∀ i, i < xs.length → idA xs i = idA ys i) : xs = ys := by
  apply List.ext_getElem hl
  intro i h1 h2
  have := h i h1
  simpa [idA, List.getD, List.getElem?_eq_getElem h1, List.getElem?_eq_getElem h2] using this
theorem row_ext {xs ys : List (Int × Int)} (hl : xs.length = ys.length) (h : ∀ i, i < xs.length → toA xs i = toA ys i ∧ wtA xs i = wtA ys i) : xs = ys := by
  apply List.ext_getElem hl
  intro i h1 h2
  have := h i h1
  simp only [toA, wtA, List.getD, List.getElem?_eq_getElem h1, List.getElem?_eq_getElem h2, Option.getD_some] at this
  exact Prod.ext this.1 this.2
theorem ports_ext {xs ys : List (List (Int × Int))} (hl : xs.length = ys.length) (h : ∀ i, i < xs.length → rowA xs i = rowA ys i) : xs = ys := by
  apply List.ext_getElem hl
  intro i h1 h2
  have := h i h1
  simpa [rowA, List.getD, List.getElem?_eq_getElem h1, List.getElem?_eq_getElem h2] using this

set_option maxRecDepth 100000 in
set_option maxHeartbeats 2000000 in
theorem same_any (ia pa ja qa : Option Addr) (il ic pl pc jl jc ql qc : Nat) (G K : Gr) (w : World) (hG : GraphAt w ia il pa pl G) (hK : GraphAt w ja jl qa ql K) :
    Calls Try.prog 11 #[.agg #[.slice ia il ic, .slice pa pl pc], .agg #[.slice ja jl jc, .slice qa ql qc]] w fun e w' => e = .returned (.bool (sameB G K)) ∧ Below w.heap.size w w' := by
  have Hil := Lib.hid hG.il
  have Hjl := Lib.hid hK.il
  have Hpl := Lib.hid hG.pl
  have Hql := Lib.hid hK.pl
  have hs1 := hG.ids.size
  have hs2 := hG.ports.size
  rw [← Hil.out] at hs1
  rw [← Hpl.out] at hs2
  unfold maxLen at hs1 hs2
  by_cases h1 : il = jl
  · by_cases h2 : pl = ql
    · subst h1
      subst h2
      have d1 : ((il : Int) != il) = false := by simp
      have d2 : ((pl : Int) != pl) = false := by simp
      go_enter Try.func11, Try.ntmps11
      go_wp2
      try (go_quiet (fail); go_wp2)
      have hbs : Below (w.heap.size + 2) ((w.alloc (.cells #[.slice ia il ic, .slice pa pl pc] 25)).alloc (.cells #[.slice ja il jc, .slice qa pl qc] 25)) ((w.alloc (.cells #[.slice ia il ic, .slice pa pl pc] 25)).alloc (.cells #[.slice ja il jc, .slice qa pl qc] 25)) := by first | exact Below.refl _ _
      go_loopw [5] (fun t wr => ∃ i : Nat, i ≤ il ∧ t = .int .i64 i ∧ (∀ j, j < i → idA G.ids j = idA K.ids j) ∧ Below (w.heap.size + 2) ((w.alloc (.cells #[.slice ia il ic, .slice pa pl pc] 25)).alloc (.cells #[.slice ja il jc, .slice qa pl qc] 25)) wr) (fun t _ => il - (intOf t).toNat)
      case atStart => exact ⟨0, Nat.zero_le _, rfl, fun j hj => absurd hj (by omega), by first | exact hbs | exact belDraws hbs _⟩
      case round =>
        clear hbs
        obtain ⟨i, hi, rfl, hn, hbel⟩ := hrel
        have Hn := Lib.hid hn
        clear hn
        have hb0 : wr.cell? ⟨w.heap.size, 0, none⟩ = some (.slice ia il ic) := boxedA hbel 0
        have hb1 : wr.cell? ⟨w.heap.size, 1, none⟩ = some (.slice pa pl pc) := boxedA hbel 1
        have hb2 : wr.cell? ⟨w.heap.size + 1, 0, none⟩ = some (.slice ja il jc) := boxedB hbel 0
        have hb3 : wr.cell? ⟨w.heap.size + 1, 1, none⟩ = some (.slice qa pl qc) := boxedB hbel 1
        by_cases hlt : i < il
        · obtain ⟨xb, xo, rfl, hxb, hxc⟩ := hG.ids.row (by have := Hil.out; omega)
          obtain ⟨yb, yo, rfl, hyb, hyc⟩ := hK.ids.row (by have := Hjl.out; omega)
          have hc1 := ((belBox2 hbel).cell (p := ⟨xb, xo + i, none⟩) hxb).trans (hxc i (by have := Hil.out; omega))
          have hc2 := ((belBox2 hbel).cell (p := ⟨yb, yo + i, none⟩) hyb).trans (hyc i (by have := Hjl.out; omega))
          clear hxc hyc
          have hii : (i : Int) < il := by omega
          by_cases he : idA G.ids i = idA K.ids i
          · have hq : (idA G.ids i != idA K.ids i) = false := by rw [he]; simp
            have Hn2 : Hid (∀ j, j < i + 1 → idA G.ids j = idA K.ids j) := Lib.hid (fun j hj => by
              by_cases h : j < i
              · exact Hn.out j h
              · rw [show j = i by omega]; exact he)
            clear he
            go_wp2
            go_quiet (fail)
            go_wp2
            go_roundw
            case rel => exact ⟨i + 1, by omega, by go_num, Hn2.out, by first | exact hbel | exact belDraws hbel _⟩
            case measure => simp [intOf]; omega
          · have hq : (idA G.ids i != idA K.ids i) = true := by simpa using he
            have Hf := Lib.hid (sameB_not (A := G) (B := K) fun h => he (by rw [h.1]))
            clear he
            go_wp2
            go_quiet (fail)
            go_wp2
            go_ret
            exact ⟨ret_bool Hf.out.symm, by first | exact belBox2 hbel | exact belDraws (belBox2 hbel) _⟩
        · have Hids := Lib.hid (ids_ext (xs := G.ids) (ys := K.ids) (by rw [← Hil.out, ← Hjl.out]) (fun j hj => Hn.out j (by have := Hil.out; omega)))
          clear Hn
          go_wp2
          have hbs := hbel
          clear hbel hb0 hb1 hb2 hb3
          obtain ⟨wo, rfl⟩ : ∃ wo : World, wo = wr := ⟨_, rfl⟩
          go_loopw [6] (fun t wr => ∃ v : Nat, v ≤ pl ∧ t = .int .i64 v ∧ (∀ j, j < v → rowA G.ps j = rowA K.ps j) ∧ Below (w.heap.size + 2) ((w.alloc (.cells #[.slice ia il ic, .slice pa pl pc] 25)).alloc (.cells #[.slice ja il jc, .slice qa pl qc] 25)) wr) (fun t _ => pl - (intOf t).toNat)
          case atStart => exact ⟨0, Nat.zero_le _, rfl, fun j hj => absurd hj (by omega), hbs⟩
          case round =>
            clear hbs
            obtain ⟨v, hv, rfl, hn, hbel⟩ := hrel
            have Hn := Lib.hid hn
            clear hn
            have hb0 : wr.cell? ⟨w.heap.size, 0, none⟩ = some (.slice ia il ic) := boxedA hbel 0
            have hb1 : wr.cell? ⟨w.heap.size, 1, none⟩ = some (.slice pa pl pc) := boxedA hbel 1
            have hb2 : wr.cell? ⟨w.heap.size + 1, 0, none⟩ = some (.slice ja il jc) := boxedB hbel 0
            have hb3 : wr.cell? ⟨w.heap.size + 1, 1, none⟩ = some (.slice qa pl qc) := boxedB hbel 1
            by_cases hvl : v < pl
            · obtain ⟨xb, xo, rfl, hxb, hxc⟩ := hG.ports.row (by have := Hpl.out; omega)
              obtain ⟨yb, yo, rfl, hyb, hyc⟩ := hK.ports.row (by have := Hql.out; omega)
              obtain ⟨la, lc, hla, hLA⟩ := hxc v (by have := Hpl.out; omega)
              obtain ⟨ma, mc, hma, hMA⟩ := hyc v (by have := Hql.out; omega)
              have HLA := Lib.hid hLA
              have HMA := Lib.hid hMA
              have Hla := Lib.hid hla
              have Hma := Lib.hid hma
              have hc1 := ((belBox2 hbel).cell (p := ⟨xb, xo + v, none⟩) hxb).trans hla
              have hc2 := ((belBox2 hbel).cell (p := ⟨yb, yo + v, none⟩) hyb).trans hma
              have hlm := hLA.size
              unfold maxLen at hlm
              clear hxc hyc hLA hMA hla hma
              have hvi : (v : Int) < pl := by omega
              by_cases hlen : (rowA G.ps v).length = (rowA K.ps v).length
              · have hq : (((rowA G.ps v).length : Int) != (rowA K.ps v).length) = false := by rw [hlen]; simp
                go_wp2
                go_quiet (fail)
                go_wp2
                have hbs := hbel
                clear hbel hb0 hb1 hb2 hb3 hc1 hc2
                go_loopw [7] (fun t wr => ∃ i : Nat, i ≤ (rowA G.ps v).length ∧ t = .int .i64 i ∧ (∀ j, j < i → toA (rowA G.ps v) j = toA (rowA K.ps v) j ∧ wtA (rowA G.ps v) j = wtA (rowA K.ps v) j) ∧ Below (w.heap.size + 2) ((w.alloc (.cells #[.slice ia il ic, .slice (some ⟨xb, xo, none⟩) pl pc] 25)).alloc (.cells #[.slice ja il jc, .slice (some ⟨yb, yo, none⟩) pl qc] 25)) wr) (fun t _ => (rowA G.ps v).length - (intOf t).toNat)
                case atStart => exact ⟨0, Nat.zero_le _, rfl, fun j hj => absurd hj (by omega), by first | exact hbs | exact belDraws hbs _⟩
                case round =>
                  clear hbs
                  obtain ⟨i, hi, rfl, hn, hbel⟩ := hrel
                  have Hi := Lib.hid hn
                  clear hn
                  have hb0 : wr.cell? ⟨w.heap.size, 0, none⟩ = some (.slice ia il ic) := boxedA hbel 0
                  have hb1 : wr.cell? ⟨w.heap.size, 1, none⟩ = some (.slice (some ⟨xb, xo, none⟩) pl pc) := boxedA hbel 1
                  have hb2 : wr.cell? ⟨w.heap.size + 1, 0, none⟩ = some (.slice ja il jc) := boxedB hbel 0
                  have hb3 : wr.cell? ⟨w.heap.size + 1, 1, none⟩ = some (.slice (some ⟨yb, yo, none⟩) pl qc) := boxedB hbel 1
                  have hc1 := ((belBox2 hbel).cell (p := ⟨xb, xo + v, none⟩) hxb).trans Hla.out
                  have hc2 := ((belBox2 hbel).cell (p := ⟨yb, yo + v, none⟩) hyb).trans Hma.out
                  by_cases hli : i < (rowA G.ps v).length
                  · obtain ⟨lb, lo, rfl, hlb, hls⟩ := HLA.out.row (by omega)
                    obtain ⟨mb, mo, rfl, hmb, hms⟩ := HMA.out.row (by omega)
                    have g1 := ((belBox2 hbel).cell (p := ⟨lb, lo + i * 2, none⟩) hlb).trans (hls i hli).1
                    have g2 := ((belBox2 hbel).cell (p := ⟨lb, lo + i * 2 + 1, none⟩) hlb).trans (hls i hli).2
                    have g3 := ((belBox2 hbel).cell (p := ⟨mb, mo + i * 2, none⟩) hmb).trans (hms i (by omega)).1
                    have g4 := ((belBox2 hbel).cell (p := ⟨mb, mo + i * 2 + 1, none⟩) hmb).trans (hms i (by omega)).2
                    clear hls hms
                    have hii : (i : Int) < (rowA G.ps v).length := by omega
                    have hij : (i : Int) < (rowA K.ps v).length := by omega
                    by_cases e1 : toA (rowA G.ps v) i = toA (rowA K.ps v) i
                    · by_cases e2 : wtA (rowA G.ps v) i = wtA (rowA K.ps v) i
                      · have Hn2 : Hid (∀ j, j < i + 1 → toA (rowA G.ps v) j = toA (rowA K.ps v) j ∧ wtA (rowA G.ps v) j = wtA (rowA K.ps v) j) := Lib.hid (fun j hj => by
                          by_cases h : j < i
                          · exact Hi.out j h
                          · rw [show j = i by omega]; exact ⟨e1, e2⟩)
                        rw [← e1] at g3
                        rw [← e2] at g4
                        clear e1 e2
                        go_wp2
                        go_quiet (fail)
                        go_wp2
                        go_roundw
                        case rel => exact ⟨i + 1, by omega, by go_num, Hn2.out, by first | exact hbel | exact belDraws hbel _⟩
                        case measure => simp [intOf]; omega
                      · have Hf := Lib.hid (sameB_not (A := G) (B := K) fun h => e2 (by rw [h.2]))
                        rw [← e1] at g3
                        have hq2 : (wtA (rowA G.ps v) i == wtA (rowA K.ps v) i) = false := by simpa using e2
                        clear e1
                        go_wp2
                        go_quiet (fail)
                        go_wp2
                        go_ret
                        exact ⟨ret_bool Hf.out.symm, by first | exact belBox2 hbel | exact belDraws (belBox2 hbel) _⟩
                    · have Hf := Lib.hid (sameB_not (A := G) (B := K) fun h => e1 (by rw [h.2]))
                      have hq2 : (toA (rowA G.ps v) i == toA (rowA K.ps v) i) = false := by simpa using e1
                      go_wp2
                      go_quiet (fail)
                      go_wp2
                      go_ret
                      exact ⟨ret_bool Hf.out.symm, by first | exact belBox2 hbel | exact belDraws (belBox2 hbel) _⟩
                  · have Hn2 : Hid (∀ j, j < v + 1 → rowA G.ps j = rowA K.ps j) := Lib.hid (fun j hj => by
                      by_cases h : j < v
                      · exact Hn.out j h
                      · rw [show j = v by omega]
                        exact row_ext hlen (fun k hk => Hi.out k (by omega)))
                    go_wp2
                    go_roundw
                    case rel => exact ⟨v + 1, by omega, by go_num, Hn2.out, hbel⟩
                    case measure => simp [intOf]; omega
              · have hq : (((rowA G.ps v).length : Int) != (rowA K.ps v).length) = true := by simp; omega
                have Hf := Lib.hid (sameB_not (A := G) (B := K) fun h => hlen (by rw [h.2]))
                go_wp2
                go_quiet (fail)
                go_wp2
                go_ret
                exact ⟨ret_bool Hf.out.symm, by first | exact belBox2 hbel | exact belDraws (belBox2 hbel) _⟩
            · have Hf := Lib.hid (sameB_mk Hids.out (ports_ext (xs := G.ps) (ys := K.ps) (by rw [← Hpl.out, ← Hql.out]) (fun j hj => Hn.out j (by have := Hpl.out; omega))))
              go_wp2
              go_ret
              exact ⟨ret_bool Hf.out.symm, belBox2 hbel⟩
    · have Hf := Lib.hid (sameB_not (A := G) (B := K) fun h => h2 (by rw [Hpl.out, Hql.out, h.2]))
      subst h1
      have d1 : ((il : Int) != il) = false := by simp
      have d2 : ((pl : Int) != ql) = true := by simp; omega
      go_enter Try.func11, Try.ntmps11
      go_wp2
      try (go_quiet (fail); go_wp2)
      go_ret
      exact ⟨ret_bool Hf.out.symm, by first | exact ((Below.refl _ _).alloc (Nat.le_refl _) _).alloc (by simp) _ | exact belDraws (((Below.refl _ _).alloc (Nat.le_refl _) _).alloc (by simp) _) _⟩
  · have Hf := Lib.hid (sameB_not (A := G) (B := K) fun h => h1 (by rw [Hil.out, Hjl.out, h.1]))
    have d1 : ((il : Int) != jl) = true := by simp; omega
    go_enter Try.func11, Try.ntmps11
    go_wp2
    try (go_quiet (fail); go_wp2)
    go_ret
    exact ⟨ret_bool Hf.out.symm, by first | exact ((Below.refl _ _).alloc (Nat.le_refl _) _).alloc (by simp) _ | exact belDraws (((Below.refl _ _).alloc (Nat.le_refl _) _).alloc (by simp) _) _⟩
end Go.Proofs.Ytfbbkiibhdgojaa
