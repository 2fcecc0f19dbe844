/- FromParents returns a tree in which a node is one step farther from node 0 than its parent. No conditions: every input. -/
import Derived.Test.YtkffpipcjdhbaaaLaw3
import Derived.Test.YtkffpipcjdhbaaaFamTree
import Derived.OpenShut
import Derived.ChangeOld
namespace Go.Proofs.Ytkffpipcjdhbaaa.lawFamilyTreesFollowParents
open Go.ChangeShapes Go.WideShapes Go.ChangeAt Go.RowKit
set_option linter.unusedVariables false

theorem own_ints {B : Nat} {w : World} {a : Option Addr} {n c : Nat} {zs : List Int} (hn : n = zs.length) (h : w.ownsRow B 3 1 (.slice a n c) n (intsV zs)) (hf : ∀ z ∈ zs, I64 z) : IntsAt w a zs := by
  subst hn
  obtain ⟨a', c', e, hm, hp⟩ := own_slice h
  injection e with e1 e2 e3
  subst e1
  refine ⟨hm, fun h0 => ?_, hf⟩
  obtain ⟨g, rfl, hg⟩ := hp h0
  exact ⟨g, 0, rfl, hg, fun i hi => own_cell h (by simp [intsV, idA, List.getElem?_eq_getElem hi, List.getD])⟩
theorem idA_snoc (qs : List Int) (z : Int) {v : Nat} (hv : v < qs.length) : idA (qs ++ [z]) v = idA qs v := by
  unfold idA
  simp [List.getD, List.getElem?_append_left hv]
theorem idA_last (qs : List Int) (z : Int) : idA (qs ++ [z]) qs.length = z := by simp [idA, List.getD]
theorem parPok_snoc {qs : List Int} {s : Nat} (h : parPok qs) (hs : s < qs.length) : parPok (qs ++ [(s : Int)]) := by
  obtain ⟨h1, h2, h3⟩ := h
  refine ⟨by simp, by rw [idA_snoc _ _ h1]; exact h2, fun v hv1 hv2 => ?_⟩
  rw [List.length_append, List.length_singleton] at hv2
  rcases Nat.lt_or_ge v qs.length with hl | hl
  · rw [idA_snoc _ _ hl]; exact h3 v hv1 hl
  · rw [show v = qs.length by omega, idA_last]; omega
theorem parPok_fit {qs : List Int} (h : parPok qs) (h24 : qs.length ≤ 24) : ∀ z ∈ qs, I64 z := by
  intro z hz
  obtain ⟨i, hi, rfl⟩ := List.mem_iff_getElem.1 hz
  have e : idA qs i = qs[i] := by simp [idA, List.getD, hi]
  rcases Nat.eq_zero_or_pos i with e0 | e0
  · subst e0
    rw [← e, h.2.1]
    exact ⟨by omega, by omega⟩
  · have := h.2.2 i e0 hi
    rw [← e]
    exact ⟨by omega, by omega⟩

set_option maxRecDepth 100000 in
set_option maxHeartbeats 1000000 in
theorem walk (w : World) (sa : Option Addr) (sc : Nat) (zs : List Int) (hI : IntsAt w sa zs) :
    Calls Try.prog 7 #[.slice sa zs.length sc] w fun e w' => e = .returned (.bool true) ∧ Below w.heap.size w w' := by
  have hzl := hI.size
  unfold maxLen at hzl
  by_cases hl : 40 < zs.length
  · clear hI
    generalize zs.length = m at *
    go_enter Try.func7, Try.ntmps7
    go_wp2_with (go_at_call 10; refine (awake_any _).mono ?_; rintro e w1 ⟨rfl, hb1⟩)
    go_ret
    exact ⟨rfl, hb1⟩
  obtain ⟨m, hm⟩ : ∃ m, m = zs.length := ⟨_, rfl⟩
  have HI : Hid (IntsAt w sa zs) := Lib.hid hI
  have Hm := Lib.hid hm
  rw [← hm] at hl hzl ⊢
  clear hm hI
  obtain ⟨i0, hi, hz0, hz1, hz2⟩ := info_parts info3
  go_enter Try.func7, Try.ntmps7
  go_wp2
  have hO0 : (w.alloc (.cells #[.int .i64 (-1)] 3)).ownsRow w.heap.size 3 1 (.slice (some ⟨w.heap.size, 0, none⟩) 1 1) 1 (intsV [-1]) := World.ownsRow_lit (base := w.heap.size) (e := 3) w #[.int .i64 (-1)] 1 (Nat.le_refl _) (by decide) rfl
  have hP0 : parPok [-1] := ⟨by simp, rfl, fun v h1 h2 => absurd h2 (by simp; omega)⟩
  have HO0 := Lib.hid hO0
  clear hO0
  go_loopw [3, 4] (fun t3 t4 wr => ∃ (k : Nat) (qs : List Int) (g c : Nat), t4 = .int .i64 k ∧ t3 = .slice (some ⟨g, 0, none⟩) qs.length c ∧ k ≤ m ∧ 1 ≤ qs.length ∧ qs.length ≤ 24 ∧ parPok qs ∧ wr.ownsRow w.heap.size 3 1 (.slice (some ⟨g, 0, none⟩) qs.length c) qs.length (intsV qs) ∧ Below w.heap.size w wr) (fun _ t4 _ => m - (intOf t4).toNat)
  case atStart => exact ⟨0, [-1], w.heap.size, 1, rfl, rfl, Nat.zero_le _, by decide, by decide, hP0, HO0.out, (Below.refl _ _).alloc (Nat.le_refl _) _⟩
  case round =>
    clear HO0 hP0
    obtain ⟨k, qs, g, c, rfl, rfl, hk, hq1, hq24, hP, hO, hb⟩ := hrel
    obtain ⟨wr0, hwr0⟩ : ∃ x, x = wr := ⟨_, rfl⟩
    subst hwr0
    obtain ⟨n, hn⟩ : ∃ n, n = qs.length := ⟨_, rfl⟩
    rw [← hn] at hq1 hq24 hO ⊢
    have HP := Lib.hid hP
    have HO := Lib.hid hO
    have Hb := Lib.hid hb
    have Hn := Lib.hid hn
    have hsz := hb.size
    clear hP hO hb hn
    by_cases hgo : k < m ∧ n < 24
    · obtain ⟨hkm, hn24⟩ := hgo
      obtain ⟨sb, so, rfl, hsb, hcs⟩ := (HI.out.below Hb.out).row (by have := Hm.out; omega)
      have hck := hcs k (by have := Hm.out; omega)
      have hfit := HI.out.fit (i := k) (by have := Hm.out; omega)
      obtain ⟨s, hs, hsl⟩ := mod_nat (idA zs k) hq1
      have Hs := Lib.hid hs
      have Hfit := Lib.hid hfit
      clear hcs hs hfit
      go_wp2_with (first | (go_at_call 33; refine (mod_any _ _ _ Hfit.out hq1 (by omega)).mono ?_; rintro e w2 ⟨rfl, rfl⟩; rw [Hs.out]) | (at_builtin; refine wpList_append_lies _ rfl (.tmp 25) (.tmp 33) 22 rfl w.heap.size 3 i0 (.int .i64 0) 1 8 Try.underlying22 hi hz0 hz1 hz2 rfl (by decide) (.slice (some ⟨g, 0, none⟩) n c) n (intsV qs) rfl (HO.out.alloc _) ⟨wr0.heap.size, 0, none⟩ 1 1 [.int .i64 s] rfl rfl (new_cells _ _ _) (fun x hx => by simp at hx; subst hx; rfl) (by decide) (by unfold maxLen; omega) (by omega) (by simp; omega) _ rfl ?_; intro g2 cap w2 hown2 hgrow2 hat2 hlt2))
      have hbel : Below w.heap.size w w2 := (Hb.out.alloc Hb.out.size (.cells #[.int .i64 s] 3)).grown hgrow2 (by simp; omega) (fun x hx => (World.ownsRow.lt HO.out x hx).1)
      have Hown2 := Lib.hid hown2
      have Hbel := Lib.hid hbel
      clear hown2 hgrow2 hat2 hbel
      go_roundw
      case rel =>
        refine ⟨k + 1, qs ++ [(s : Int)], g2, cap, by go_num, ?_, hkm, by simp, by rw [List.length_append, ← Hn.out]; simp; omega, parPok_snoc HP.out (by rw [← Hn.out]; exact hsl), ?_, Hbel.out⟩
        · rw [List.length_append, ← Hn.out]; rfl
        · rw [List.length_append, ← Hn.out]
          have e : intsV (qs ++ [(s : Int)]) = intsV qs ++ [.int .i64 s] := by simp [intsV]
          rw [e]
          exact Hown2.out
      case measure => simp [intOf]; omega
    · have hF := parP_any (some ⟨g, 0, none⟩) c qs wr0 (own_ints Hn.out HO.out (parPok_fit HP.out (by rw [← Hn.out]; exact hq24)))
      have ho : parPO qs = .inr (relG (parN qs) n) := by
        unfold parPO relO
        rw [if_pos HP.out, ← Hn.out, if_pos (inB_mk ⟨by omega, by omega⟩), Int.toNat_natCast]
      rw [ho, ← Hn.out] at hF
      obtain ⟨hV, htr, hdp⟩ := par_tree HP.out Hn.out.symm hq24
      have hIq := own_ints Hn.out HO.out (parPok_fit HP.out (by rw [← Hn.out]; exact hq24))
      have HF := Lib.hid hF
      have HV := Lib.hid hV
      have Htr := Lib.hid htr
      have Hdp := Lib.hid hdp
      have HIq := Lib.hid hIq
      clear hF hV htr hdp hIq ho
      have hcond : (k < m ∧ ¬ n < 24) ∨ ¬ k < m := by omega
      rcases hcond with ⟨hkm, hn24⟩ | hkm
      all_goals
        clear hgo
        go_wp2_with fail
        refine HF.out.mono ?_
        rintro e w1 ⟨⟨p1, l1, c1, p2, l2, c2, kk, rfl, hO1⟩, hb1⟩
        unfold famRet
        obtain ⟨hG, rfl⟩ := hO1.graph
        have hG : GraphAt w1 p1 l1 p2 l2 (relG (parN qs) n) := hG
        have hl2 : n = l2 := by have := hG.pl; simp [relG, famG] at this; omega
        subst hl2
        clear hO1
        have ht0 : erO (.inr (relG (parN qs) n)) = 0 := rfl
        rw [ht0]
        clear ht0
        go_wp2_with fail
        obtain ⟨u1, hu1⟩ : ∃ u1, u1 = w1.alloc (.cells #[.slice p1 l1 c1, .slice p2 n c2] 26) := ⟨_, rfl⟩
        have hb2 : Below wr0.heap.size wr0 u1 := by rw [hu1]; exact hb1.alloc hb1.size _
        have hG1 : GraphAt u1 p1 l1 p2 n (relG (parN qs) n) := by rw [hu1]; exact hG.alloc _
        have hus : u1.heap.size = w1.heap.size + 1 := by rw [hu1]; simp
        have x0 : u1.cell? ⟨w1.heap.size, 0, none⟩ = some (.slice p1 l1 c1) := by rw [hu1]; simp [cell_push0]
        have x1 : u1.cell? ⟨w1.heap.size, 1, none⟩ = some (.slice p2 n c2) := by rw [hu1]; simp [cell_push0]
        rw [← hu1]
        clear hu1 hb1 hG
        have hds := distancesOf_any p1 p2 l1 c1 n c2 (relG (parN qs) n) 0 u1 hG1 HV.out (by omega)
        rw [show ((0 : Nat) : Int) = 0 from rfl] at hds
        refine hds.mono ?_
        clear hds
        rintro e w3 ⟨⟨fb, rfl, hfb, hM⟩, hb3⟩
        have z0 := (hb3.cell (p := ⟨w1.heap.size, 0, none⟩) (by simp; omega)).trans x0
        have z1 := (hb3.cell (p := ⟨w1.heap.size, 1, none⟩) (by simp; omega)).trans x1
        have hG3 := hG1.below hb3
        have hb4 := hb2.trans (hb3.mono hb2.size)
        have HM := Lib.hid hM
        clear hM hb3 hb2 hG1 x0 x1
        go_wp2_with fail
        refine (tree_any p1 p2 l1 c1 n c2 (relG (parN qs) n) w3 hG3).mono ?_
        rintro e w4 ⟨rfl, hb5⟩
        rw [Htr.out]
        have hb6 := hb4.trans (hb5.mono hb4.size)
        have hq := (HIq.out.below hb6)
        have hM4 : ∀ i, i < n → w4.cell? ⟨fb, i, none⟩ = some (.int .i64 (distF (relG (parN qs) n) 0 i)) := fun i hi => (hb5.cell (p := ⟨fb, i, none⟩) HM.out.1).trans (HM.out.2 i hi).1
        obtain ⟨qb, qo, he, hqb, hqc⟩ := hq.row (by have := Hn.out; omega)
        injection he with he
        injection he with he1 he2
        subst he1 he2
        have HM4 := Lib.hid hM4
        have Hqc := Lib.hid hqc
        have hbw := Hb.out.trans (hb6.mono Hb.out.size)
        have Hbw := Lib.hid hbw
        clear hM4 hqc hq hb6 hb5 hb4 hG3 z0 z1 hbw
        go_wp2_with fail
        go_loopw [8] (fun t wr => ∃ v : Nat, t = .int .i64 v ∧ 1 ≤ v ∧ v ≤ n ∧ Below w4.heap.size w4 wr) (fun t _ => n - (intOf t).toNat)
        case atStart => exact ⟨1, rfl, Nat.le_refl _, hq1, Below.refl _ _⟩
        case round =>
          obtain ⟨v, rfl, hv1, hvn, hbr⟩ := hrel
          have HBr := Lib.hid hbr
          clear hbr
          by_cases hlt : v < n
          · have hp := HP.out.2.2 v hv1 (by rw [← Hn.out]; exact hlt)
            obtain ⟨p, hpp⟩ : ∃ p : Nat, idA qs v = p := ⟨(idA qs v).toNat, by omega⟩
            have hpn : p < n := by omega
            have c1 := (HBr.out.cell (p := ⟨fb, v, none⟩) (cell_lt (HM4.out v hlt))).trans (HM4.out v hlt)
            have c2 := (HBr.out.cell (p := ⟨g, 0 + v, none⟩) hqb).trans (Hqc.out v (by rw [← Hn.out]; exact hlt))
            have c3 := (HBr.out.cell (p := ⟨fb, p, none⟩) (cell_lt (HM4.out p hpn))).trans (HM4.out p hpn)
            rw [Nat.zero_add, hpp] at c2
            have hd := Hdp.out v hv1 hlt
            rw [hpp, Int.toNat_natCast] at hd
            rw [hd] at c1
            have hlow : -1 ≤ distF (relG (parN qs) n) 0 p := distF_low _ _ _
            have hup : distF (relG (parN qs) n) 0 p < 24 := by
              have := distF_lt HV.out (s := 0) (v := p) (by show 0 < (famG n _).ps.length; rw [famG_len]; omega)
              rw [show (relG (parN qs) n).ps.length = n from famG_len n _] at this
              omega
            generalize distF (relG (parN qs) n) 0 p = y at c1 c3 hlow hup
            clear hp hpp hd
            go_wp2
            go_quiet (fail)
            go_wp2
            go_roundw
            case rel => exact ⟨v + 1, by go_num, by omega, by omega, belDraws HBr.out _⟩
            case measure => simp [intOf]; omega
          · obtain rfl : v = n := by omega
            go_wp2_with (go_at_call 10; refine (awake_any _).mono ?_; rintro e w5 ⟨rfl, hb7⟩)
            go_ret
            have hb8 := Hbw.out.trans (HBr.out.mono Hbw.out.size)
            exact ⟨rfl, hb8.trans (hb7.mono hb8.size)⟩

set_option maxRecDepth 100000 in
theorem lifted (os : Os) (started : os.Started) (H : Type) (enc : TypeId × Value → H) :
    ReturnsInHanded {} Try.checked os 7 .any (Rows.familyTreesFollowParentsSpec.pre6 enc Try.prog Try.f7 Rows.familyTreesFollowParentsRow.domain false) (Rows.familyTreesFollowParentsSpec.post enc Try.prog Try.f7 false true false false) := by
  refine returnsInHanded_of_change (C := Try.checked) own started (by kernel_rfl) Try.func7
    (ChangeSpec.witness6 (enc := enc) (C := Try.checked) false ⟨#[], #[.slice none 0 0], []⟩ 8 (by kernel_rfl) (by kernel_rfl) (by kernel_rfl) (by kernel_rfl)) ?_
  intro W base args ds gs before hval0 hW hcnd _
  have hval : ∀ (j : Nat) t v, Try.f7.params[j]? = some t → args[j]? = some v → Value.okWide Try.prog W .any base t v := hval0
  have hW' := hW
  obtain ⟨p, q, hA0, hV, rfl, hfz, hnd⟩ := hW
  have hA : DataW.TrodAll enc Try.prog W 0 (fun _ => true) true Try.f7.params.toList args.toList ds p := hA0
  rw [Try.params7] at hA hval
  obtain ⟨v0, vs0, d0, ds0, p0, q0, hargs, rfl, rfl, h0, r0⟩ := trodAll_cons hA
  obtain ⟨rfl, rfl, rfl⟩ := trodAll_nil r0
  obtain rfl : args = #[v0] := by cases args; simp_all
  obtain ⟨rfl, rfl⟩ := trodVars_none hV
  have k0 := h0
  have lt0 : ∀ x ∈ p0, x.block < W.heap.size := by obtain ⟨m, hm⟩ := k0; exact DataW.trod_lt m _ _ _ hm
  obtain ⟨sa0, sl0, sc0, rfl⟩ := okWide_slice Try.underlying22 (hval 0 22 v0 rfl rfl)
  obtain ⟨m0, hm0⟩ := h0
  obtain ⟨xa0, xl0, xc0, zs0, hv0, hl0, hI0⟩ := ints_of Try.underlying22 Try.underlying3 (by kernel_rfl) hm0
  injection hv0 with e0a e0b e0c
  subst e0a e0b e0c hl0
  clear hA0 hval0
  refine (walk W sa0 sc0 zs0 hI0).mono fun e W' ⟨he, bel⟩ => ?_
  subst he
  exact ⟨_, rfl, _, _, _, [], _, [], hW', trodAll_mk1 (shut_bool Try.underlying4 _), (trodAll_cons_mk (Below.trod laidOut (by kernel_rfl) (of_decide_eq_true (by kernel_rfl)) k0 bel lt0) trodAll_mk0), rfl, bel.frame _, fun h => by cases h⟩

theorem over : Rows.familyTreesFollowParentsRow.holds Try.pinned (OpenSpec.ofChange Rows.familyTreesFollowParentsSpec) :=
  OpenClaim.holds_of_wide 7 Try.f7 rfl rfl rfl rfl rfl rfl rfl ⟨rfl, rfl, rfl, rfl, rfl⟩ rfl rfl rfl rfl rfl (by kernel_rfl) Try.func7 (by kernel_rfl)
    (of_decide_eq_true (by kernel_rfl)) (by unfold Func.isWrapper; first | (rw [if_pos (by decide +kernel)]; kernel_rfl) | (rw [if_neg (by decide +kernel)]; exact ⟨rfl, rfl⟩))
    (fun os started H enc _ => lifted os started H enc)

theorem proved : Rows.FamilyTreesFollowParentsSaid := over
end Go.Proofs.Ytkffpipcjdhbaaa.lawFamilyTreesFollowParents
