/- What Rename of the program answers. -/
import Derived.Test.YtbcndmlhbdanaaaTermP3
import Derived.Test.YtbcndmlhbdanaaaTermApp
import Derived.Laws.CopyOwn
namespace Go.Proofs.Ytbcndmlhbdanaaa
open Go.RowKit

/-- whether a number names a variable -/
def inSix (z : Int) : Bool := decide (0 ≤ z ∧ z < 6)
theorem ren1_any (z : Int) (w : World) : Calls Try.prog 39 #[.int .i64 z] w fun e w' => e = .returned (.bool (!inSix z)) ∧ w' = w := by
  unfold inSix
  by_cases h0 : z < 0
  all_goals by_cases h6 : z ≥ 6
  all_goals first
    | (exfalso; omega)
    | (have d0 : decide (z < 0) = decide (z < 0) := rfl
       conv at d0 => rhs; simp only [h0, decide_true, decide_false]
       have d1 : decide (z ≥ 6) = decide (z ≥ 6) := rfl
       conv at d1 => rhs; simp only [h6, decide_true, decide_false]
       have hf : (!decide (0 ≤ z ∧ z < 6)) = (decide (z < 0) || decide (z ≥ 6)) := by
         rw [Bool.eq_iff_iff]
         simp
         try omega
       rw [d0, d1] at hf
       generalize (!decide (0 ≤ z ∧ z < 6)) = b at hf ⊢
       subst hf
       go_enter Try.func39, Try.ntmps39
       go_wp2
       go_ret
       exact ⟨rfl, rfl⟩)
theorem allI_upto {zs : List Int} (h : ∀ j, j < zs.length → inSix (idA zs j) = true) : zs.all inSix = true := by
  rw [List.all_eq_true]
  intro z hz
  obtain ⟨i, hi, rfl⟩ := List.mem_iff_getElem.1 hz
  have := h i hi
  simpa [idA, hi] using this
theorem not_allI {zs : List Int} {k : Nat} (hk : k < zs.length) (h : inSix (idA zs k) = false) : zs.all inSix = false := by
  rw [Bool.eq_false_iff]
  intro h2
  rw [List.all_eq_true] at h2
  have := h2 zs[k] (List.getElem_mem hk)
  simp [idA, hk] at h
  rw [h] at this
  cases this
set_option maxHeartbeats 400000 in
theorem idxI_any (la : Option Addr) (lc : Nat) (zs : List Int) (w : World) (hL : IntsAt w la zs) :
    Calls Try.prog 46 #[.slice la zs.length lc, .func (Fn.func 39) #[] #[]] w fun e w' => (∃ z : Int, e = .returned (.int .i64 z) ∧ decide (z ≥ 0) = !(zs.all inSix)) ∧ Below w.heap.size w w' := by
  have hlm := hL.size
  unfold maxLen at hlm
  have HL := Lib.hid hL
  clear hL
  obtain ⟨m, hm⟩ : ∃ m, m = zs.length := ⟨_, rfl⟩
  have HM := Lib.hid hm
  rw [← hm] at hlm ⊢
  clear hm
  go_enter Try.func46, Try.ntmps46
  go_wp2
  go_loopw [8] (fun t wr => ∃ k : Nat, k ≤ m ∧ t = .int .i64 k ∧ (∀ j, j < k → inSix (idA zs j) = true) ∧ Below w.heap.size w wr) (fun t _ => m - (intOf t).toNat)
  case atStart => exact ⟨0, Nat.zero_le _, rfl, fun j hj => absurd hj (by omega), by first | exact Below.refl _ _ | exact belDraws (Below.refl _ _) _⟩
  case round =>
    obtain ⟨k, hk, rfl, hn, hbel⟩ := hrel
    have Hn := Lib.hid hn
    have HBel := Lib.hid hbel
    clear hn hbel
    by_cases hlt : k < m
    · obtain ⟨zb, zo, rfl, hzb, hzc⟩ := HL.out.row (by rw [← HM.out]; omega)
      have g1 := (HBel.out.cell (p := ⟨zb, zo + k, none⟩) hzb).trans (hzc k (by rw [← HM.out]; exact hlt))
      clear hzc
      cases he : inSix (idA zs k) with
      | false =>
        have Hp : Hid (decide ((k : Int) ≥ 0) = !(zs.all inSix)) := Lib.hid (by rw [not_allI (by rw [← HM.out]; exact hlt) he]; simp)
        have HR := Lib.hid (ren1_any (idA zs k) wr)
        rw [he] at HR
        clear he
        generalize idA zs k = z at g1 HR
        go_wp2_with (go_at_call 39; refine HR.out.mono ?_; rintro e w2 ⟨rfl, rfl⟩)
        go_ret
        exact ⟨⟨_, rfl, Hp.out⟩, HBel.out⟩
      | true =>
        have He := Lib.hid he
        have HR := Lib.hid (ren1_any (idA zs k) wr)
        rw [he] at HR
        clear he
        obtain ⟨z, hz⟩ : ∃ z, idA zs k = z := ⟨_, rfl⟩
        rw [hz] at g1 HR
        clear hz
        go_wp2_with (go_at_call 39; refine HR.out.mono ?_; rintro e w2 ⟨rfl, rfl⟩)
        go_roundw
        case rel => exact ⟨k + 1, by omega, by go_num, fun j hj => by
          rcases Nat.lt_or_ge j k with h | h
          · exact Hn.out j h
          · rw [show j = k by omega]; exact He.out, HBel.out⟩
        case measure => simp [intOf]; omega
    · obtain rfl : k = m := by omega
      have Hp : Hid (decide ((-1 : Int) ≥ 0) = !(zs.all inSix)) := Lib.hid (by rw [allI_upto (fun j hj => Hn.out j (by rw [HM.out]; exact hj))]; rfl)
      go_wp2
      go_ret
      exact ⟨⟨_, rfl, Hp.out⟩, HBel.out⟩
theorem contI_any (la : Option Addr) (lc : Nat) (zs : List Int) (w : World) (hL : IntsAt w la zs) :
    Calls Try.prog 38 #[.slice la zs.length lc, .func (Fn.func 39) #[] #[]] w fun e w' => e = .returned (.bool (!(zs.all inSix))) ∧ Below w.heap.size w w' := by
  have HI := Lib.hid (idxI_any la lc zs w hL)
  generalize (!(zs.all inSix)) = b at HI ⊢
  generalize zs.length = m at HI ⊢
  clear hL
  go_enter Try.func38, Try.ntmps38
  go_wp2_with (go_at_call 46; refine HI.out.mono ?_; rintro e w1 ⟨⟨z, rfl, hz⟩, hb1⟩)
  go_ret
  exact ⟨by first | rfl | exact ret_bool hz, hb1⟩

/-- copy of a list of terms over a row of one's own of its length -/
theorem run_copyT {P : Program} (w : World) (dT sT ty elem : TypeId) (g n cap : Nat) (ad : Addr) (sc : Nat) (cur : Array Value) (t : TypeId) (xs : List (Int × Int)) (hu : P.underlying dT = some (.slice elem)) (hs : (P.info? elem).map (·.size) = some 2)
    (hg : w.heap[g]? = some (.cells cur t (0, 0))) (hn : xs.length = n) (hsrc : ∀ j v, (linkVs xs)[j]? = some v → w.cell? (ad.add j) = some v) (hfit : n * 2 ≤ cur.size) :
    (Builtin.copy_ #[dT, sT] ty #[.slice (some ⟨g, 0, none⟩) n cap, .slice (some ad) n sc]).run P w = .ok (goInt n) (w.setRow g (linkVs xs ++ cur.toList.drop (n * 2)).toArray) := by
  subst hn
  have hl := run_loadCells_list (P := P) w ad (linkVs xs) hsrc
  rw [linkVs_len] at hl
  have hst := run_storeCells_at P g 0 t (linkVs xs) 0 cur w hg (by rw [linkVs_len]; omega) linkVs_one
  rw [linkVs_len] at hst
  cases hq : P.info? elem with
  | none => simp [hq] at hs
  | some i =>
    have hi : i.size = 2 := by simpa [hq] using hs
    simp only [Nat.zero_add, Nat.add_zero, List.take_zero, List.nil_append] at hst
    simp [Builtin.copy_, run_underlying hu, Builtin.lenOf, Builtin.firstCells, sizeOf, typeInfo, hq, hi, hl, hst]
theorem own_setRow {w : World} {B g n : Nat} {vs : List Value} {xs : List (Int × Int)} (h : w.ownsRow B 41 2 (.slice (some ⟨g, 0, none⟩) n n) n vs) (hn : xs.length = n) : ∃ cur, w.heap[g]? = some (.cells cur 41 (0, 0)) ∧ n * 2 ≤ cur.size ∧ B ≤ g ∧ OwnT B (w.setRow g (linkVs xs ++ cur.toList.drop (n * 2)).toArray) (.slice (some ⟨g, 0, none⟩) n n) xs := by
  rcases h.2 with ⟨e, _⟩ | ⟨g', cap, cur, e, hg0, hg, h1, h2, h3, _⟩
  · cases e
  · injection e with e1 e2 e3
    injection e1 with e1
    injection e1 with e1
    subst e1 e3
    refine ⟨cur, hg, by omega, hg0, ?_⟩
    subst hn
    refine ⟨linkVs_len xs, .inr ⟨g, xs.length, _, rfl, hg0, setRow_heap w g _ _ _ _ hg, Nat.le_refl _, h2, ?_, ?_⟩⟩
    · simp [linkVs_len, h3]
    · rw [← linkVs_len xs]
      simp
section
variable {ops : Array Oper} {o : Oper} {a : Act} {w W : World} {Q : Exit → Act → World → Prop} {rest : List Oper}
theorem wpList_copyOverT (hgd : o.guard = none) (d s : Operand) (ho : o.op = .call { callee := .builtin .copy, args := #[d, s], argTypes := #[22, 22] }) (B g n sc : Nat) (hd : a.eval d = .slice (some ⟨g, 0, none⟩) n n)
    (la : Option Addr) (hs' : a.eval s = .slice la n sc) (vs : List Value) (h : w.ownsRow B 41 2 (.slice (some ⟨g, 0, none⟩) n n) n vs) (xs : List (Int × Int)) (hn : n = xs.length) (h0 : 0 < n) (hX : LinksAt w la xs)
    (hK : ∀ w', OwnT B w' (.slice (some ⟨g, 0, none⟩) n n) xs → Below B w w' → wpList Try.prog ops Q rest (a.put o.dst (goInt n)) w') :
    wpList Try.prog ops Q (o :: rest) a w := by
  obtain ⟨cur, hg, hfit, hBg, hown⟩ := own_setRow h hn.symm
  obtain ⟨b, off, rfl, _⟩ := hX.row (by omega)
  obtain ⟨i, hi, _, hz1, _⟩ := info_parts infoTerm
  have hrun := run_copyT (P := Try.prog) w 22 22 o.type 41 g n n ⟨b, off, none⟩ sc cur 41 xs Try.underlying22 (by rw [hi]; simp [hz1]) hg hn.symm (links_cells hX) hfit
  refine wpList_plain hgd fun K hK' => ?_
  unfold Oper.wp
  simp [execOp, ho, resolve, invoke, builtin, hd, hs', hrun, Result.andThen]
  exact hK' _ _ (hK _ hown (below_setRow (Below.refl _ _) hBg _))
end
theorem own_bel {w w' : World} {B : Nat} {t : TypeId} {size : Nat} {v : Value} {n : Nat} {vs : List Value} (h : w.ownsRow B t size v n vs) (hb : Below w.heap.size w w') : w'.ownsRow B t size v n vs :=
  h.kept (row := none) ⟨hb.os, hb.tape, hb.output, hb.size, fun k hk _ => hb.block k hk⟩ (by cases v.ownBlock <;> simp)
theorem renT_skip {m : List Int} {op x : Int} (h : varB op = false) : renT m (op, x) = (op, x) := by
  unfold renT
  rw [if_neg (by unfold varB at h; simpa using h)]
theorem renT_var {m : List Int} {op x : Int} (h : varB op = true) : renT m (op, x) = (op, idA m x.toNat) := by
  unfold renT
  rw [if_pos (by unfold varB at h; simpa using h)]
theorem inSix_all (zs : List Int) : (zs.all fun z => decide (0 ≤ z ∧ z < 6)) = zs.all inSix := rfl

set_option maxHeartbeats 1000000 in
theorem renameP_any (a : Option Addr) (c : Nat) (xs : List (Int × Int)) (ma : Option Addr) (mc : Nat) (zs : List Int) (w : World) (hX : LinksAt w a xs) (hn : xs.length ≤ 1000) (hZ : IntsAt w ma zs) :
    Calls Try.prog 22 #[.slice a xs.length c, .slice ma zs.length mc] w fun e w' => RenSays w.heap.size (renO xs zs) e w' ∧ Below w.heap.size w w' := by
  have HX := Lib.hid hX
  have HZ := Lib.hid hZ
  have hzl := hZ.size
  have HVc := Lib.hid (validP_any a c xs zs.length w hX hn (by unfold I64; unfold maxLen at hzl; omega))
  have HCc := Lib.hid (fun (W : World) (hb : Below w.heap.size w W) => contI_any ma mc zs W (hZ.below hb))
  obtain ⟨m, hm⟩ : ∃ m, m = xs.length := ⟨_, rfl⟩
  obtain ⟨n, hn'⟩ : ∃ n, n = zs.length := ⟨_, rfl⟩
  have HM := Lib.hid hm
  have HN := Lib.hid hn'
  obtain ⟨R, hR⟩ : ∃ R, R = renO xs zs := ⟨_, rfl⟩
  rw [← hR]
  unfold renO at hR
  rw [inSix_all] at hR
  obtain ⟨A, hA⟩ : ∃ A, A = zs.all inSix := ⟨_, rfl⟩
  rw [← hA] at hR HCc
  have HAll := Lib.hid hA
  rw [← hn'] at hR HVc HCc hzl ⊢
  rw [← hm] at HVc hn ⊢
  clear hm hn' hX hZ hA
  unfold maxLen at hzl
  cases hv : validE xs n with
  | false =>
    rw [hv, if_neg (by decide)] at hR
    subst hR
    go_enter Try.func22, Try.ntmps22
    go_wp2_with (go_at_call 26; refine HVc.out.mono ?_; rintro e w1 ⟨rfl, hb1⟩; rw [hv])
    refine bodyPost_ret (v := .tuple #[.slice none 0 0, .int .i64 7]) (by first | rfl | (simp [results]; done) | (kernel_rfl)) rfl ?_
    exact ⟨rfl, hb1⟩
  | true =>
  rw [hv, if_pos rfl] at hR
  cases A with
  | false =>
    rw [if_neg (by decide)] at hR
    subst hR
    go_enter Try.func22, Try.ntmps22
    go_wp2_with (first | (go_at_call 26; refine HVc.out.mono ?_; rintro e w1 ⟨rfl, hb1⟩; rw [hv]) | (go_at_call 38; refine (HCc.out _ hb1).mono ?_; rintro e w2 ⟨rfl, hb2⟩))
    refine bodyPost_ret (v := .tuple #[.slice none 0 0, .int .i64 2]) (by first | rfl | (simp [results]; done) | (kernel_rfl)) rfl ?_
    exact ⟨rfl, hb1.trans (hb2.mono hb1.size)⟩
  | true =>
    rw [if_pos rfl] at hR
    subst hR
    have HA := Lib.hid (fun i hi => valid_arg (i := i) hv hi)
    have hpos : 0 < m := by
      rw [HM.out]
      unfold validE oneB at hv
      simp only [Bool.and_eq_true, decide_eq_true_eq] at hv
      exact hv.1.1.1.2.1
    obtain ⟨i0, hi, hz0, hz1, hz2⟩ := info_parts infoTerm
    have HMl : Hid (m = xs.length) := HM
    go_enter Try.func22, Try.ntmps22
    go_wp2_with (first | (go_at_call 26; refine HVc.out.mono ?_; rintro e w1 ⟨rfl, hb1⟩; rw [hv]) | (go_at_call 38; refine (HCc.out _ hb1).mono ?_; rintro e w2 ⟨rfl, hb2⟩; have hb3 := hb1.trans (hb2.mono hb1.size)) | (at_make; refine wpList_make_full _ rfl _ _ 22 rfl w.heap.size 41 i0 (.agg #[.int .i64 0, .int .i64 0]) 2 Try.underlying22 hi hz0 hz1 _ _ _ _ m rfl rfl rfl rfl (by rw [hz2]; omega) (by unfold maxLen; omega) hb3.size ?_; intro w4 hown4 hg4; have hb4 := hb3.grown hg4 hb3.size (fun k e => by cases e); have hx4 := HX.out.below hb4) | (refine wpList_copyOverT rfl (.tmp 19) (.tmp 20) rfl w.heap.size _ m c rfl a rfl _ hown4 xs HMl.out hpos hx4 ?_; intro w5 hown5 hb5))
    have hB5 := hb4.trans hb5
    obtain ⟨g, hgg⟩ : ∃ g, g = w2.heap.size := ⟨_, rfl⟩
    rw [← hgg] at hown5 ⊢
    have hgw : w.heap.size ≤ g := by rw [hgg]; exact hb3.size
    have HB5 := Lib.hid hB5
    have HO5 := Lib.hid hown5
    clear hgg hB5 hown5 hown4 hg4 hb4 hx4 hb5 hb3 hb1 hb2 hv
    go_loopw [24] (fun t wq => ∃ q : Nat, t = .int .i64 q ∧ q ≤ m ∧ OwnT w.heap.size wq (.slice (some ⟨g, 0, none⟩) m m) (renS xs zs q) ∧ Below w.heap.size w wq) (fun t _ => m - (intOf t).toNat)
    case atStart => exact ⟨0, rfl, Nat.zero_le _, by rw [renS_zero]; exact HO5.out, HB5.out⟩
    case round =>
      obtain ⟨q, rfl, hqm, hoq, hbq⟩ := hrel
      have HOq := Lib.hid hoq
      have HBq := Lib.hid hbq
      clear hoq hbq
      by_cases hql : q < m
      · have hxl : q < xs.length := by rw [← HM.out]; exact hql
        obtain ⟨b, o, rfl, hb, hc⟩ := HX.out.row (by rw [← HM.out]; omega)
        have t0 := (HBq.out.cell (p := ⟨b, o + q * 2, none⟩) hb).trans (hc q hxl).1
        have t1 := (HBq.out.cell (p := ⟨b, o + q * 2 + 1, none⟩) hb).trans (hc q hxl).2
        have hab := HA.out q hxl
        have hqi : (q : Int) < m := by omega
        have hq0 : (0 : Int) ≤ q := by omega
        have hset := renS_set (m := zs) hxl
        have hat := renS_at (m := zs) hxl
        obtain ⟨op, hop⟩ : ∃ op, toA xs q = op := ⟨_, rfl⟩
        obtain ⟨x, hx'⟩ : ∃ x, wtA xs q = x := ⟨_, rfl⟩
        rw [hop, hx'] at hset hat hab
        rw [hop] at t0
        rw [hx'] at t1
        have hskip : varB op = false → renS xs zs q = renS xs zs (q + 1) := fun h => renS_skip hxl (by rw [hop]; unfold varB at h; simpa using h)
        have HSk := Lib.hid hskip
        have HOP := Lib.hid hop
        have HXX := Lib.hid hx'
        have HSet := Lib.hid hset
        have HAt := Lib.hid hat
        have HC := Lib.hid hc
        clear hop hx' hset hat hc hskip
        cases hvb : varB op with
        | false =>
          have hoa := (show wr.ownsRow _ _ _ _ _ _ from HOq.out).alloc (.cells #[.int .i64 op, .int .i64 x] 41)
          have HOa := Lib.hid hoa
          clear hoa hab
          go_wp2_with (go_at_call 40; refine (varP_any op x _).mono ?_; rintro e w6 ⟨rfl, hb6⟩; rw [hvb])
          have hbw := HBq.out.trans ((belT hb6).mono HBq.out.size)
          have hoz : OwnT w.heap.size w6 (.slice (some ⟨g, 0, none⟩) m m) (renS xs zs (q + 1)) := by
            rw [← HSk.out hvb]
            exact own_bel HOa.out hb6
          have HOz := Lib.hid hoz
          have HBw := Lib.hid hbw
          clear hoz hbw hb6
          go_roundw
          case rel => exact ⟨q + 1, by go_num, by omega, HOz.out, HBw.out⟩
          case measure => simp [intOf]; omega
        | true =>
          have hx := arg_var hab (by unfold varB at hvb; simpa using hvb)
          obtain ⟨d, rfl⟩ : ∃ d : Nat, x = d := ⟨x.toNat, by omega⟩
          obtain ⟨zb, zo, rfl, hzb, hzc⟩ := HZ.out.row (by rw [← HN.out]; omega)
          have y1 := hzc d (by rw [← HN.out]; omega)
          have hoa := (show wr.ownsRow _ _ _ _ _ _ from HOq.out).alloc (.cells #[.int .i64 op, .int .i64 (d : Int)] 41)
          have HOa := Lib.hid hoa
          have HY1 := Lib.hid y1
          have hd0 : (0 : Int) ≤ d := by omega
          have hd1 : (d : Int) < n := by omega
          clear hoa hab hzc y1
          go_wp2_with (go_at_call 40; refine (varP_any op d _).mono ?_; rintro e w6 ⟨rfl, hb6⟩; rw [hvb]; have hbw := HBq.out.trans ((belT hb6).mono HBq.out.size); have hoz : OwnT w.heap.size w6 (.slice (some ⟨g, 0, none⟩) m m) (renS xs zs q) := own_bel HOa.out hb6; have y2 := (hbw.cell (p := ⟨zb, zo + d, none⟩) hzb).trans HY1.out; have hx1 : w6.cell? ⟨wr.heap.size, 1, none⟩ = some (.int .i64 (d : Int)) := boxT hb6 1; obtain ⟨u0, u1, u2⟩ := hoz.cells (i := q) (by rw [renS_len]; exact hxl))
          have hst := hoz.stored q (idA zs d)
          have hse : (renS xs zs q).set q (toA (renS xs zs q) q, idA zs d) = renS xs zs (q + 1) := by
            rw [HAt.out.1, ← HSet.out, renT_var hvb]
            rfl
          rw [hse] at hst
          have HST := Lib.hid hst
          have HBS := Lib.hid (hbw.setCell (p := ⟨g, q * 2 + 1, none⟩) hgw (.int .i64 (idA zs d)))
          clear hst hse hoz hbw hb6
          go_roundw
          case rel => exact ⟨q + 1, by go_num, by omega, HST.out, HBS.out⟩
          case measure => simp [intOf]; omega
      · obtain rfl : q = m := by omega
        have hfin := HOq.out
        rw [HM.out, renS_all, ← HM.out] at hfin
        have HFin := Lib.hid hfin
        clear hfin
        go_wp2
        refine bodyPost_ret (v := .tuple #[.slice (some ⟨g, 0, none⟩) q q, .int .i64 0]) (by first | rfl | (simp [results]; done) | (kernel_rfl)) rfl ?_
        exact ⟨⟨_, rfl, by first | exact HFin.out | exact HFin.out.drew _⟩, by first | exact HBq.out | exact belDraws HBq.out _⟩
end Go.Proofs.Ytbcndmlhbdanaaa
