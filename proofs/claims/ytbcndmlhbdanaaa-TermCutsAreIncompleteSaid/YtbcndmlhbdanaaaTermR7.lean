/- What Rename of the specification of layer 5 answers. -/
import Derived.Test.YtbcndmlhbdanaaaTermCopy
namespace Go.Proofs.Ytbcndmlhbdanaaa
open Go.RowKit

def renT (m : List Int) (t : Int × Int) : Int × Int := if t.1 = 5 ∨ t.1 = 12 then (t.1, idA m t.2.toNat) else t
def renL (xs : List (Int × Int)) (m : List Int) : List (Int × Int) := xs.map (renT m)
def renO (xs : List (Int × Int)) (m : List Int) : Int ⊕ List (Int × Int) :=
  if validE xs m.length = true then (if (m.all fun z => decide (0 ≤ z ∧ z < 6)) = true then .inr (renL xs m) else .inl 2) else .inl 7
/-- what is answered: an error and no list, or a list of the call's own -/
def RenSays (B : Nat) (o : Int ⊕ List (Int × Int)) (e : Ending) (w : World) : Prop :=
  match o with
  | .inl k => e = .returned (.tuple #[.slice none 0 0, .int .i64 k])
  | .inr ys => ∃ v, e = .returned (.tuple #[v, .int .i64 0]) ∧ OwnT B w v ys
/-- the first i terms are renamed -/
def renS (xs : List (Int × Int)) (m : List Int) (i : Nat) : List (Int × Int) := (xs.take i).map (renT m) ++ xs.drop i
section
variable {xs : List (Int × Int)} {m : List Int} {i : Nat}
theorem renS_zero : renS xs m 0 = xs := by simp [renS]
theorem renS_all : renS xs m xs.length = renL xs m := by simp [renS, renL]
theorem renS_len : (renS xs m i).length = xs.length := by simp [renS]; omega
theorem renS_get (hi : i < xs.length) : (renS xs m i)[i]? = some (toA xs i, wtA xs i) := by
  unfold renS
  have hl : ((xs.take i).map (renT m)).length = i := by simp; omega
  rw [List.getElem?_append_right (by omega), hl, Nat.sub_self, drop_at hi]
  rfl
theorem renS_at (hi : i < xs.length) : toA (renS xs m i) i = toA xs i ∧ wtA (renS xs m i) i = wtA xs i := by
  have h := renS_get (m := m) hi
  constructor
  · conv => lhs; unfold toA
    rw [List.getD_eq_getElem?_getD, h]
    rfl
  · conv => lhs; unfold wtA
    rw [List.getD_eq_getElem?_getD, h]
    rfl
theorem renS_set (hi : i < xs.length) : (renS xs m i).set i (renT m (toA xs i, wtA xs i)) = renS xs m (i + 1) := by
  unfold renS
  have hl : ((xs.take i).map (renT m)).length = i := by simp; omega
  rw [List.set_append_right _ _ (by omega), hl, Nat.sub_self, drop_at hi, List.set_cons_zero, List.take_add_one, List.map_append, List.append_assoc]
  congr 1
  simp [toA, wtA, hi]
theorem renS_skip (hi : i < xs.length) (h : ¬ (toA xs i = 5 ∨ toA xs i = 12)) : renS xs m i = renS xs m (i + 1) := by
  rw [← renS_set hi]
  have e : renT m (toA xs i, wtA xs i) = (toA xs i, wtA xs i) := by unfold renT; rw [if_neg h]
  rw [e]
  have h2 := renS_get (m := m) hi
  refine (List.ext_getElem? fun k => ?_)
  rw [List.getElem?_set]
  split
  · rename_i hk
    subst hk
    rw [h2]
    split
    · rfl
    · rename_i h3
      exact absurd (by rw [renS_len]; exact hi) h3
  · rfl
end
theorem OwnT.mono {w : World} {B B' : Nat} {v : Value} {xs : List (Int × Int)} (h : OwnT B w v xs) (hb : B' ≤ B) : OwnT B' w v xs := by
  obtain ⟨hl, h⟩ := h
  refine ⟨hl, ?_⟩
  rcases h with h | ⟨g, cap, cur, h1, h2, h3⟩
  · exact .inl h
  · exact .inr ⟨g, cap, cur, h1, by omega, h3⟩

set_option maxHeartbeats 1000000 in
theorem renameR_any (a : Option Addr) (c : Nat) (xs : List (Int × Int)) (ma : Option Addr) (mc : Nat) (zs : List Int) (w : World) (hX : LinksAt w a xs) (hn : xs.length ≤ 1000) (hZ : IntsAt w ma zs) :
    Calls Try.prog 23 #[.slice a xs.length c, .slice ma zs.length mc] w fun e w' => RenSays w.heap.size (renO xs zs) e w' ∧ Below w.heap.size w w' := by
  have HX := Lib.hid hX
  have HZ := Lib.hid hZ
  have hzl := hZ.size
  have HVc := Lib.hid (validR_any a c xs zs.length w hX hn)
  obtain ⟨m, hm⟩ : ∃ m, m = xs.length := ⟨_, rfl⟩
  obtain ⟨n, hn'⟩ : ∃ n, n = zs.length := ⟨_, rfl⟩
  have HM := Lib.hid hm
  have HN := Lib.hid hn'
  obtain ⟨R, hR⟩ : ∃ R, R = renO xs zs := ⟨_, rfl⟩
  rw [← hR]
  unfold renO at hR
  rw [← hn'] at hR HVc hzl ⊢
  rw [← hm] at HVc hn ⊢
  clear hm hn' hX hZ
  unfold maxLen at hzl
  cases hv : validE xs n with
  | false =>
    rw [hv, if_neg (by decide)] at hR
    subst hR
    go_enter Try.func23, Try.ntmps23
    go_wp2_with (go_at_call 27; refine HVc.out.mono ?_; rintro e w1 ⟨rfl, hb1⟩; rw [hv])
    refine bodyPost_ret (v := .tuple #[.slice none 0 0, .int .i64 7]) (by first | rfl | (simp [results]; done) | (kernel_rfl)) rfl ?_
    exact ⟨rfl, hb1⟩
  | true =>
    rw [hv, if_pos rfl] at hR
    have HA := Lib.hid (fun i hi => valid_arg (i := i) hv hi)
    have HR := Lib.hid hR
    clear hR
    have hpos : 0 < m := by
      rw [HM.out]
      unfold validE oneB at hv
      simp only [Bool.and_eq_true, decide_eq_true_eq] at hv
      exact hv.1.1.1.2.1
    go_enter Try.func23, Try.ntmps23
    go_wp2_with (go_at_call 27; refine HVc.out.mono ?_; rintro e w1 ⟨rfl, hb1⟩; rw [hv])
    have HB1 := Lib.hid hb1
    clear hb1 hv
    go_loopw [6] (fun t wr => ∃ i : Nat, t = .int .i64 i ∧ i ≤ n ∧ (∀ j, j < i → 0 ≤ idA zs j ∧ idA zs j < 6) ∧ Below w.heap.size w wr) (fun t _ => n - (intOf t).toNat)
    case atStart => exact ⟨0, rfl, Nat.zero_le _, fun j hj => absurd hj (by omega), by first | exact HB1.out | exact belDraws HB1.out _⟩
    case round =>
      obtain ⟨i, rfl, hin, hs, hbr⟩ := hrel
      have HS := Lib.hid hs
      have HBr := Lib.hid hbr
      clear hs hbr
      by_cases hlt : i < n
      · obtain ⟨zb, zo, rfl, hzb, hzc⟩ := HZ.out.row (by rw [← HN.out]; omega)
        have g1 := (HBr.out.cell (p := ⟨zb, zo + i, none⟩) hzb).trans (hzc i (by rw [← HN.out]; exact hlt))
        have hii : (i : Int) < n := by omega
        clear hzc
        by_cases e0 : 0 ≤ idA zs i
        · by_cases e1 : idA zs i < 6
          · have HS2 : Hid (∀ j, j < i + 1 → 0 ≤ idA zs j ∧ idA zs j < 6) := Lib.hid (fun j hj => by
              by_cases h : j < i
              · exact HS.out j h
              · rw [show j = i by omega]; exact ⟨e0, e1⟩)
            generalize idA zs i = z at g1 e0 e1
            have d0 : decide (z < 0) = false := by simp; omega
            have d1 : decide (z ≥ 6) = false := by simp; omega
            go_wp2
            go_roundw
            case rel => exact ⟨i + 1, by go_num, by omega, HS2.out, by first | exact HBr.out | exact belDraws HBr.out _⟩
            case measure => simp [intOf]; omega
          · have hr : R = .inl 2 := by
              rw [HR.out, if_neg]
              rw [Bool.not_eq_true, ← Bool.not_eq_true, List.all_eq_true]
              intro h
              have hil : i < zs.length := by rw [← HN.out]; exact hlt
              have := h zs[i] (List.getElem_mem hil)
              simp [idA, hil] at e1 this
              omega
            generalize idA zs i = z at g1 e0 e1
            have d0 : decide (z < 0) = false := by simp; omega
            have d1 : decide (z ≥ 6) = true := by simp; omega
            go_wp2
            refine bodyPost_ret (v := .tuple #[.slice none 0 0, .int .i64 2]) (by first | rfl | (simp [results]; done) | (kernel_rfl)) rfl ?_
            exact ⟨rfl, by first | exact HBr.out | exact belDraws HBr.out _⟩
        · have hr : R = .inl 2 := by
            rw [HR.out, if_neg]
            rw [Bool.not_eq_true, ← Bool.not_eq_true, List.all_eq_true]
            intro h
            have hil : i < zs.length := by rw [← HN.out]; exact hlt
            have := h zs[i] (List.getElem_mem hil)
            simp [idA, hil] at e0 this
            omega
          generalize idA zs i = z at g1 e0
          have d0 : decide (z < 0) = true := by simp; omega
          go_wp2
          refine bodyPost_ret (v := .tuple #[.slice none 0 0, .int .i64 2]) (by first | rfl | (simp [results]; done) | (kernel_rfl)) rfl ?_
          exact ⟨rfl, by first | exact HBr.out | exact belDraws HBr.out _⟩
      · obtain rfl : i = n := by omega
        have hr : R = .inr (renL xs zs) := by
          rw [HR.out, if_pos]
          rw [List.all_eq_true]
          intro z hz
          obtain ⟨k, hk, rfl⟩ := List.mem_iff_getElem.1 hz
          have := HS.out k (by rw [HN.out]; exact hk)
          simpa [idA, hk] using this
        subst hr
        clear HR HS
        have HXr := Lib.hid (HX.out.below HBr.out)
        have HMl : Hid (m = xs.length) := HM
        have hx6 : xs.length ≤ 1000000 := by rw [← HM.out]; omega
        have HX6 := Lib.hid hx6
        clear hx6
        go_wp2_with (at_builtin; refine wpList_copyT rfl _ (.tmp 32) rfl a c xs m HMl.out rfl rfl HXr.out HX6.out ?_; intro a1 c1 w2 hown hb2)
        have hB2 := HBr.out.trans (hb2.mono HBr.out.size)
        have hO2 := hown.mono HBr.out.size
        obtain ⟨a', c', he, _, hg⟩ := hO2.shape
        injection he with e1 e2 e3
        subst e1 e3
        obtain ⟨g, rfl, hgw, hgl⟩ := hg (by rw [← HM.out]; exact hpos)
        have HB2 := Lib.hid hB2
        have HO2 := Lib.hid hO2
        clear hB2 hO2 hown hb2 e2 hgl
        go_loopw [8] (fun t wq => ∃ q : Nat, t = .int .i64 q ∧ q ≤ m ∧ OwnT w.heap.size wq (.slice (some ⟨g, 0, none⟩) m c1) (renS xs zs q) ∧ Below w.heap.size w wq) (fun t _ => m - (intOf t).toNat)
        case atStart => exact ⟨0, rfl, Nat.zero_le _, by rw [renS_zero]; exact HO2.out, HB2.out⟩
        case round =>
          obtain ⟨q, rfl, hqm, hoq, hbq⟩ := hrel
          have HOq := Lib.hid hoq
          have HBq := Lib.hid hbq
          clear hoq hbq
          by_cases hql : q < m
          · have hxl : q < xs.length := by rw [← HM.out]; exact hql
            obtain ⟨t0, t1, t2⟩ := HOq.out.cells (i := q) (by rw [renS_len]; exact hxl)
            rw [(renS_at hxl).1] at t0
            rw [(renS_at hxl).2] at t1
            have hab := HA.out q hxl
            have hqi : (q : Int) < m := by omega
            have hsk := renS_skip (m := zs) hxl
            obtain ⟨op, hop⟩ : ∃ op, toA xs q = op := ⟨_, rfl⟩
            obtain ⟨x, hx'⟩ : ∃ x, wtA xs q = x := ⟨_, rfl⟩
            rw [hop] at t0 hab hsk
            rw [hx'] at t1 hab
            have HOP := Lib.hid hop
            have HXX := Lib.hid hx'
            clear hop hx'
            by_cases e5 : op = 5
            · subst e5
              clear hsk
              have hx := arg_var hab (.inl rfl)
              obtain ⟨d, rfl⟩ : ∃ d : Nat, x = d := ⟨x.toNat, by omega⟩
              obtain ⟨zb, zo, rfl, hzb, hzc⟩ := HZ.out.row (by rw [← HN.out]; omega)
              have y1 := (HBq.out.cell (p := ⟨zb, zo + d, none⟩) hzb).trans (hzc d (by rw [← HN.out]; omega))
              have hst := HOq.out.stored q (idA zs d)
              have hse : (renS xs zs q).set q (toA (renS xs zs q) q, idA zs d) = renS xs zs (q + 1) := by
                rw [(renS_at hxl).1, ← renS_set hxl, HOP.out]
                congr 1
                unfold renT
                rw [if_pos (.inl rfl), HXX.out]
                rfl
              rw [hse] at hst
              have HST := Lib.hid hst
              have HBS := Lib.hid (HBq.out.setCell (p := ⟨g, q * 2 + 1, none⟩) hgw (.int .i64 (idA zs d)))
              have hd0 : (0 : Int) ≤ d := by omega
              have hd1 : (d : Int) < i := by omega
              clear hzc hst hse hab hx
              generalize idA zs d = z at y1 HST HBS
              go_wp2
              go_roundw
              case rel => exact ⟨q + 1, by go_num, by omega, HST.out, HBS.out⟩
              case measure => simp [intOf]; omega
            · by_cases e12 : op = 12
              · subst e12
                clear hsk
                have hx := arg_var hab (.inr rfl)
                obtain ⟨d, rfl⟩ : ∃ d : Nat, x = d := ⟨x.toNat, by omega⟩
                obtain ⟨zb, zo, rfl, hzb, hzc⟩ := HZ.out.row (by rw [← HN.out]; omega)
                have y1 := (HBq.out.cell (p := ⟨zb, zo + d, none⟩) hzb).trans (hzc d (by rw [← HN.out]; omega))
                have hst := HOq.out.stored q (idA zs d)
                have hse : (renS xs zs q).set q (toA (renS xs zs q) q, idA zs d) = renS xs zs (q + 1) := by
                  rw [(renS_at hxl).1, ← renS_set hxl, HOP.out]
                  congr 1
                  unfold renT
                  rw [if_pos (.inr rfl), HXX.out]
                  rfl
                rw [hse] at hst
                have HST := Lib.hid hst
                have HBS := Lib.hid (HBq.out.setCell (p := ⟨g, q * 2 + 1, none⟩) hgw (.int .i64 (idA zs d)))
                have hd0 : (0 : Int) ≤ d := by omega
                have hd1 : (d : Int) < i := by omega
                clear hzc hst hse hab hx
                generalize idA zs d = z at y1 HST HBS
                go_wp2
                go_roundw
                case rel => exact ⟨q + 1, by go_num, by omega, HST.out, HBS.out⟩
                case measure => simp [intOf]; omega
              · have q5 : (op == 5) = false := by simpa using e5
                have q12 : (op == 12) = false := by simpa using e12
                have hst : OwnT w.heap.size wr (.slice (some ⟨g, 0, none⟩) m c1) (renS xs zs (q + 1)) := by
                  rw [← hsk (by omega)]
                  exact HOq.out
                have HST := Lib.hid hst
                clear hst hsk hab e5 e12
                go_wp2
                go_roundw
                case rel => exact ⟨q + 1, by go_num, by omega, by first | exact HST.out | exact HST.out.drew _, by first | exact HBq.out | exact belDraws HBq.out _⟩
                case measure => simp [intOf]; omega
          · obtain rfl : q = m := by omega
            have hfin := HOq.out
            rw [HM.out, renS_all, ← HM.out] at hfin
            have HFin := Lib.hid hfin
            clear hfin
            go_wp2
            refine bodyPost_ret (v := .tuple #[.slice (some ⟨g, 0, none⟩) q c1, .int .i64 0]) (by first | rfl | (simp [results]; done) | (kernel_rfl)) rfl ?_
            exact ⟨⟨_, rfl, by first | exact HFin.out | exact HFin.out.drew _⟩, by first | exact HBq.out | exact belDraws HBq.out _⟩
end Go.Proofs.Ytbcndmlhbdanaaa
