/- What variable, inRange, Valid and what they call of the program answer. -/
import Derived.Test.YtdbahiepihkagaaGreatDoorTermMost
namespace Go.Proofs.YtdbahiepihkagaaGreatDoor
set_option maxRecDepth 100000
open Go.RowKit Go.Shelf
attribute [local go_sem] Oper.semAt_some

set_option maxRecDepth 100000 in
set_option maxHeartbeats 4000000 in
theorem mostB_any (a : Option Addr) (c : Nat) (xs : List (Int × Int)) (w : World) (hX : LinksAt w a xs) (hn : xs.length ≤ 1000) (h1 : oneB xs = true) :
    Calls Tryz.prog 134 #[.slice a xs.length c, .func (.func 136) #[] #[]] w fun e w' => e = .returned (.int .i64 (levF xs).2) ∧ Below w.heap.size w w' := by
  have HO := Lib.hid h1
  have he : (endF xs 0 != xs.length) = false := by
    rw [one_end] at h1
    simpa using h1
  have HE := Lib.hid (fun (W : World) (hb : Below w.heap.size w W) => endP_any a c xs 0 W (hX.below hb) (by omega))
  have hpos : 0 < xs.length := by
    rcases Nat.eq_zero_or_pos xs.length with h0 | h0
    · rw [one_end, endF_out (by omega)] at h1
      simp at h1
    · exact h0
  obtain ⟨b, o, rfl, hb, hc⟩ := hX.row hpos
  have HC := Lib.hid hc
  obtain ⟨m, hm⟩ : ∃ m, m = xs.length := ⟨_, rfl⟩
  have HM := Lib.hid hm
  rw [← hm] at HE he hn hpos ⊢
  generalize endF xs 0 = z at HE he
  clear hX hm hc h1
  refine (callsIn_wide (n := 4)).1 ?_
  refine callsIn_of_wp_marks Tryz.func134 rfl trivial ?_ rfl
  simp only [Tryz.ntmps134, List.size_toArray, List.length_cons, List.length_nil, Nat.reduceAdd, Nat.reduceSub, Array.replicate_succ, Array.replicate_zero, List.push_toArray, List.append_toArray, List.nil_append, List.cons_append]
  have hB0 : Below w.heap.size w (w.alloc (.cells #[.func (.func 136) #[] #[]] 118)) := (Below.refl _ w).alloc (Nat.le_refl _) _
  have HE0 := Lib.hid (HE.out _ hB0)
  obtain ⟨i0, hi, hz0, hz1, hz2⟩ := info_parts infoInt
  gi_wp2_with (first | (refine ⟨trivial, ?_⟩; gi_at_call 67; refine (callsIn_wide.2 HE0.out).mono ?_; rintro e w1 ⟨rfl, hb1⟩; have hb1s := hb1.size) | (gi_at_make; refine wpListIn_make_own _ rfl _ _ 137 rfl w.heap.size 3 i0 (.int .i64 0) 1 Tryz.underlying137 hi hz0 hz1 _ _ _ 48 rfl rfl rfl (by omega) (by decide) (by rw [World.size_alloc] at hb1s; omega) ?_; intro w2 hown2 hg2) | (refine ⟨trivial, ?_⟩; gi_at_call 174; refine (back_in Fence.wide _ trivial rfl _ _ _ _).mono ?_; rintro e w3 ⟨rfl, rfl⟩))
  clear HE HE0 hB0 he
  have bC1 : Go.Boxed w1 w.heap.size 118 (.func (.func 136) #[] #[]) := (hb1.block _ (by simp)).trans (Go.Boxed.new w 118 _)
  have bC2 := bC1.kept hg2 (by simp)
  have bC := (bC2.alloc (.cells #[.slice (some ⟨w1.heap.size, 0, none⟩) 0 48] 137)).alloc (.cells #[.slice (some ⟨b, o, none⟩) m c] 25)
  have bW := (Go.Boxed.new w2 137 (.slice (some ⟨w1.heap.size, 0, none⟩) 0 48)).alloc (.cells #[.slice (some ⟨b, o, none⟩) m c] 25)
  have bS := Go.Boxed.new (w2.alloc (.cells #[.slice (some ⟨w1.heap.size, 0, none⟩) 0 48] 137)) 25 (.slice (some ⟨b, o, none⟩) m c)
  rw [World.size_alloc] at bS
  have hrow := (hown2.alloc (.cells #[.slice (some ⟨w1.heap.size, 0, none⟩) 0 48] 137)).alloc (.cells #[.slice (some ⟨b, o, none⟩) m c] 25)
  rw [World.size_alloc] at hb1s
  have hB1 : Below w.heap.size w w1 := ((Below.refl _ w).alloc (Nat.le_refl _) _).trans (hb1.mono (by simp))
  have hB2 : Below w.heap.size w w2 := hB1.grown hg2 (by omega) (fun k e => by cases e)
  have hs2 := hB2.size
  have hB3 := (hB2.alloc hs2 (.cells #[.slice (some ⟨w1.heap.size, 0, none⟩) 0 48] 137)).alloc (by simp; omega) (.cells #[.slice (some ⟨b, o, none⟩) m c] 25)
  have hsz : ((w2.alloc (.cells #[.slice (some ⟨w1.heap.size, 0, none⟩) 0 48] 137)).alloc (.cells #[.slice (some ⟨b, o, none⟩) m c] 25)).heap.size = w2.heap.size + 2 := by simp
  have hbw := bC2.lt
  obtain ⟨W0, hW0⟩ : ∃ W0, (w2.alloc (.cells #[.slice (some ⟨w1.heap.size, 0, none⟩) 0 48] 137)).alloc (.cells #[.slice (some ⟨b, o, none⟩) m c] 25) = W0 := ⟨_, rfl⟩
  rw [hW0] at bC bW bS hrow hB3 hsz ⊢
  clear hW0 bC1 bC2 hown2 hB1 hB2 hb1 hg2
  obtain ⟨Bw, hBw⟩ : ∃ Bw, Bw = w2.heap.size := ⟨_, rfl⟩
  rw [← hBw] at bW bS hsz hbw hs2 ⊢
  obtain ⟨g0, hg0⟩ : ∃ g0, g0 = w1.heap.size := ⟨_, rfl⟩
  rw [← hg0] at bW hrow ⊢
  clear hBw hg0 hb1s
  have hc0 : ∀ i, i < m → W0.cell? ⟨b, o + i * 2, none⟩ = some (.int .i64 (toA xs i)) ∧ W0.cell? ⟨b, o + i * 2 + 1, none⟩ = some (.int .i64 (wtA xs i)) := fun i h =>
    ⟨(hB3.cell (p := ⟨b, o + i * 2, none⟩) hb).trans (HC.out i (by rw [← HM.out]; exact h)).1, (hB3.cell (p := ⟨b, o + i * 2 + 1, none⟩) hb).trans (HC.out i (by rw [← HM.out]; exact h)).2⟩
  have hrounds := back_rounds Fence.wide (4 - 1) trivial rfl (by omega) (Bw + 1) w.heap.size b o m c xs HM.out hpos (by omega) hb W0 (by omega) (by omega) bS.cell hc0
  have hnil : topF false (xs.drop m) = [] := by rw [HM.out, List.drop_length]; rfl
  have hstart : (∃ v, Go.Boxed W0 Bw 137 v ∧ W0.ownsRow w.heap.size 3 1 v (topF false (xs.drop (m - 0))).length (rowT false xs (m - 0)) ∧ ∃ g cap, v = .slice (some ⟨g, 0, none⟩) (topF false (xs.drop (m - 0))).length cap) := by
    refine ⟨_, bW, ?_, g0, 48, ?_⟩
    · unfold rowT
      rw [Nat.sub_zero, hnil]
      exact hrow
    · rw [Nat.sub_zero, hnil]
      rfl
  have HRounds := Lib.hid hrounds
  have HStart := Lib.hid hstart
  have HB3 := Lib.hid hB3
  clear hrounds hstart hc0 hnil hrow hB3 HC
  refine range_rounds rfl (by omega) (gf := 192) (lb := #[.pointer (some ⟨Bw + 1, 0, none⟩)]) rfl trivial (enters_of Tryz.func192 (by kernel_rfl) rfl) HRounds.out (fun _ => rfl)
    (fun h k => h.trans k) (fun W l o1 o2 h1 h2 h3 h4 => KeepsB.put (by omega) W l o1 o2 h1 h2 h3 h4)
    (fun k W => ((∃ v, Go.Boxed W Bw 137 v ∧ W.ownsRow w.heap.size 3 1 v (topF false (xs.drop (m - k))).length (rowT false xs (m - k)) ∧ ∃ g cap, v = .slice (some ⟨g, 0, none⟩) (topF false (xs.drop (m - k))).length cap) ∧ (Go.Boxed W w.heap.size 118 (.func (.func 136) #[] #[]) ∧ Go.Boxed W (Bw + 1) 25 (.slice (some ⟨b, o, none⟩) m c))) ∧ Below w.heap.size w W)
    (OwnFrom.and (OwnFrom.and (Own.from (holdsRow_own w.heap.size Bw 137 3 1 (fun k => (topF false (xs.drop (m - k))).length) (fun k => rowT false xs (m - k)) (fun k v => ∃ g cap, v = .slice (some ⟨g, 0, none⟩) (topF false (xs.drop (m - k))).length cap)) _) (OwnFrom.and (Own.from (boxed_own w.heap.size 118 (fun _ => .func (.func 136) #[] #[])) _) (Own.from (boxed_own (Bw + 1) 25 (fun _ => .slice (some ⟨b, o, none⟩) m c)) _))) (ownFrom_below (Nat.le_refl _) (by omega)))
    ⟨⟨HStart.out, bC, bS⟩, HB3.out⟩
    (fun k a' W => ∃ Bt, Bw + 1 < Bt ∧ W.heap[Bt]? = some (.cells #[.int .i64 (toA xs (m - 1 - k)), .int .i64 (wtA xs (m - 1 - k))] 55 (0, 0)) ∧ a' = { tmps := #[.slice (some ⟨b, o, none⟩) m c, .func (.func 136) #[] #[], undef, .pointer (some ⟨w.heap.size, 0, none⟩), .int .i64 0, .pointer (some ⟨Bw, 0, none⟩), undef, .pointer (some ⟨Bt, 0, none⟩), undef, undef, undef, undef, .slice (some ⟨b, o, none⟩) m c, .int .i64 z, .slice (some ⟨b, o, none⟩) m c, .int .i64 m, .bool false, .slice (some ⟨g0, 0, none⟩) 0 48, .slice (some ⟨b, o, none⟩) m c, .func (.func 192) #[] #[.pointer (some ⟨Bw + 1, 0, none⟩)], .int .i64 ((m - 1 - k : Nat) : Int), .agg #[.int .i64 (toA xs (m - 1 - k)), .int .i64 (wtA xs (m - 1 - k))], undef, undef, undef, undef, undef, undef, undef, undef, undef, undef, undef, undef, undef, undef, undef, undef, undef, undef, undef, undef, undef, undef, undef, undef, undef, undef, undef, undef, undef, undef, undef, undef, undef], defers := [] })
    (fun k a' _ X Y row hs hg hr => by
      obtain ⟨Bt, k1, k2, k3⟩ := hs
      refine ⟨Bt, k1, (hg.block Bt (Array.getElem?_eq_some_iff.1 k2).1 (fun e => ?_)).trans k2, k3⟩
      obtain ⟨_, o', ho, hcc⟩ := hr Bt e.symm
      rw [k2] at ho
      cases ho
      cases hcc)
    ?assign ?body ?done
  case assign =>
    rintro l k W K hk ⟨⟨⟨v, bV, hrw, hsl⟩, bC1, bS1⟩, hB1⟩ hK
    unfold backV
    rw [← HM.out]
    generalize toA xs (m - 1 - k) = op at hK ⊢
    generalize wtA xs (m - 1 - k) = ar at hK ⊢
    gi_wp2
    refine hK _ _ ((KeepsOthers.alloc _ _).from _) ⟨(Below.refl _ W).alloc hB1.size _, fun u hu => ?_⟩ ⟨⟨⟨v, bV.alloc _, hrw.alloc _, hsl⟩, bC1.alloc _, bS1.alloc _⟩, hB1.alloc hB1.size _⟩ ⟨W.heap.size, bS1.lt, World.alloc_heap_new W _, rfl⟩
    rw [(bS1.alloc _).cell, ← bS1.cell]
    exact hu
  case body =>
    rintro l k a' W hk ⟨⟨⟨v, bV, hrw, g, cap, rfl⟩, bC1, bS1⟩, hB1⟩ ⟨Bt, hBt, hT, rfl⟩
    have hmx : Tryz.prog.follows .mixedOrders = true := by kernel_rfl
    obtain ⟨i, hi'⟩ : ∃ i, i = m - 1 - k := ⟨_, rfl⟩
    have hmk : m - k = i + 1 := by omega
    have hmk1 : m - (k + 1) = i := by omega
    have hix : i < xs.length := by rw [← HM.out]; omega
    rw [hmk] at hrw bV
    simp only [hmk1]
    rw [← hi'] at hT ⊢
    obtain ⟨hr1, hr2⟩ := top_room HO.out false hix
    have hst := top_step (xs := xs) false hix
    have hle := fun v (h : v ∈ topF false (xs.drop (i + 1))) => topF_le false _ v h
    have hlen := topF_len false (xs.drop (i + 1))
    rw [List.length_drop] at hle hlen
    unfold rowT at hrw ⊢
    simp only [hst]
    clear hst hi' hmk hmk1
    generalize toA xs i = op at hT hr1 hr2 ⊢
    generalize wtA xs i = ar at hT ⊢
    generalize topF false (xs.drop (i + 1)) = S at hrw bV hle hlen hr2 ⊢
    obtain ⟨K, hK⟩ : ∃ K : Nat, arF op = K := ⟨(arF op).toNat, by omega⟩
    rw [hK, Int.toNat_natCast] at hr2 ⊢
    have HK := Lib.hid hK
    clear hK hr1
    have cW := bV.cell
    have fW := bV.frozen
    have cC := bC1.cell
    have cT : W.cell? ⟨Bt, 0, none⟩ = some (.int .i64 op) := by simp [World.cell?, hT]
    have hrl := row_cap hrw
    have hS1 := hle
    obtain ⟨q, hq⟩ : ∃ q, S.length = q + K := ⟨S.length - K, by omega⟩
    rw [hq] at hrw bV cW hrl
    obtain ⟨wv, P, w0, w1', w2', w3, w4, w5⟩ := ways_part hrw hq (fun v h => by have := hle v h; have := HM.out; omega)
    have hs1 : IntKind.i64.wrap ((q : Int) + (K : Int) - (K : Int)) = (q : Int) := by
      rw [IntKind.wrap_i64]
      have := hrl.2
      unfold maxLen at this
      omega
    have hs2 : IntKind.i64.wrap (q : Int) = (q : Int) := by
      rw [IntKind.wrap_i64]
      have := hrl.2
      unfold maxLen at this
      omega
    gi_wp2
    refine wpIn_mono (?hreg : Code.wpIn _ _ _ _ (fun e a' w' => e = Exit.normal ∧ a' = { tmps := #[.slice (some ⟨b, o, none⟩) m c, .func (.func 136) #[] #[], undef, .pointer (some ⟨w.heap.size, 0, none⟩), .int .i64 0, .pointer (some ⟨Bw, 0, none⟩), undef, .pointer (some ⟨Bt, 0, none⟩), .int .i64 q, undef, undef, undef, .slice (some ⟨b, o, none⟩) m c, .int .i64 z, .slice (some ⟨b, o, none⟩) m c, .int .i64 m, .bool false, .slice (some ⟨g0, 0, none⟩) 0 48, .slice (some ⟨b, o, none⟩) m c, .func (.func 192) #[] #[.pointer (some ⟨Bw + 1, 0, none⟩)], .int .i64 i, .agg #[.int .i64 op, .int .i64 ar], .slice (some ⟨g, 0, none⟩) (q + K) cap, .int .i64 ((q + K : Nat) : Int), .pointer (some ⟨Bt, 0, none⟩), .int .i64 op, .int .i64 K, .int .i64 q, undef, undef, undef, undef, undef, undef, undef, undef, undef, undef, undef, undef, undef, undef, undef, undef, undef, undef, undef, undef, undef, undef, undef, undef, undef, undef, undef], defers := [] } ∧ w' = W.drew) _ _) ?hpost
    case hreg =>
      gi_region_with_o (refine ⟨trivial, ?_⟩; gi_at_call 85; refine (CallsIn.inRound l (callsIn_wide.2 (arityP_any op _))).mono ?_; rintro e w' ⟨rfl, rfl⟩; rw [HK.out])
      all_goals exact ⟨rfl, by first | rfl | (simp only [hs1, hs2, Int.natCast_add]; done) | (simp only [hs1, hs2, Int.natCast_add]; rfl), rfl⟩
    case hpost =>
      rintro e a' w' ⟨rfl, rfl, rfl⟩
      have cW2 : W.drew.cell? ⟨Bw, 0, none⟩ = some (.slice (some ⟨g, 0, none⟩) (q + K) cap) := cW
      have cC2 : W.drew.cell? ⟨w.heap.size, 0, none⟩ = some (.func (.func 136) #[] #[]) := cC
      have cT2 : W.drew.cell? ⟨Bt, 0, none⟩ = some (.int .i64 op) := cT
      have cP : ∀ j, j < K → W.drew.cell? ⟨g, q + j, none⟩ = some (.int .i64 (P j : Nat)) := w3
      have hcut := row_cutN q (by omega) hrw
      have hrest : (S.map fun (v : Nat) => Value.int .i64 (v : Int)).reverse.take q = ((S.drop K).map fun (v : Nat) => Value.int .i64 (v : Int)).reverse := by
        rw [List.take_reverse, List.length_map, hq, show q + K - q = K by omega, List.map_drop]
      rw [hrest] at hcut
      have hdl : (S.drop K).length = q := by rw [List.length_drop]; omega
      have hsd : W.drew.heap.size = W.heap.size := rfl
      have hBd : Below w.heap.size W W.drew := belDraws (Below.refl _ _) 1
      have hBs := hB1.size
      have HCut := Lib.hid (show W.drew.ownsRow w.heap.size 3 1 (.slice (some ⟨g, 0, none⟩) q cap) q ((S.drop K).map fun (v : Nat) => Value.int .i64 (v : Int)).reverse from hcut)
      have HP := Lib.hid cP
      have H1 := Lib.hid w1'
      have H2 := Lib.hid w2'
      have H4 := Lib.hid w4
      have H5 := Lib.hid w5
      have H0 := Lib.hid w0
      have HbV := Lib.hid (show Go.Boxed W.drew Bw 137 (.slice (some ⟨g, 0, none⟩) (q + K) cap) from bV)
      have HbC := Lib.hid (show Go.Boxed W.drew w.heap.size 118 (.func (.func 136) #[] #[]) from bC1)
      have HbS := Lib.hid (show Go.Boxed W.drew (Bw + 1) 25 (.slice (some ⟨b, o, none⟩) m c) from bS1)
      have HDl := Lib.hid hdl
      have HBd := Lib.hid hBd
      have HB1 := Lib.hid hB1
      have hadd := addN_le false op
      have hmax := hrl.2
      unfold maxLen at hmax
      have hq1 : q ≤ 1000 := by
        have := HM.out
        omega
      clear hs1 hcut hrest hdl cP w0 w1' w2' w3 w4 w5 bV bC1 bS1 hBd hle hS1 hrw hlen hT cW cC cT hB1
      by_cases hcq : cap = q
      all_goals try (have hcq2 := hcq.symm; subst hcq2)
      all_goals
        gi_wp2
        gi_loopw [9, 32] (fun s t wr => ∃ j : Nat, t = .int .i64 j ∧ j ≤ K ∧ s = .int .i64 (wv j : Nat) ∧ wr = W.drew) (fun _ t _ => K - (intOf t).toNat)
        case atStart => exact ⟨0, rfl, Nat.zero_le _, by rw [H0.out]; rfl, rfl⟩
        case round =>
          obtain ⟨j, rfl, hj, rfl, rfl⟩ := hrel
          by_cases hlt : j < K
          · have hmx2 : (wv j < P j ∧ wv (j + 1) = P j) ∨ (P j ≤ wv j ∧ wv (j + 1) = wv j) := by
              have := H1.out j hlt
              omega
            have cj := HP.out j hlt
            have k4 := H4.out j
            have k5 := H5.out j hlt
            obtain ⟨pj, hpj⟩ : ∃ pj, P j = pj := ⟨_, rfl⟩
            obtain ⟨vj, hvj⟩ : ∃ vj, wv j = vj := ⟨_, rfl⟩
            rw [hpj] at hmx2 cj k5
            rw [hvj] at hmx2 k4 ⊢
            rcases hmx2 with ⟨hm1, hm2⟩ | ⟨hm1, hm2⟩
            all_goals try (exfalso; omega)
            all_goals
              have HM2 := Lib.hid hm2
              clear hm2
              gi_wp2
              go_roundw
              case rel => exact ⟨j + 1, by go_num, by omega, by rw [HM2.out], by first | rfl | trivial⟩
              case measure => first | (simp [intOf]; done) | (simp [intOf]; omega)
          · obtain rfl : j = K := by omega
            have hfin := H2.out
            have k4 := H4.out j
            obtain ⟨vj, hvj⟩ : ∃ vj, wv j = vj := ⟨_, rfl⟩
            rw [hvj] at k4 hfin ⊢
            have HFin := Lib.hid hfin
            clear hfin hvj
            rcases (show addN false op = 0 ∨ addN false op = 1 by omega) with had | had
            all_goals
              have HAdd := Lib.hid had
              clear had
              gi_wp2_with (first | (refine ⟨trivial, ?_⟩; gi_at_call 136; refine (CallsIn.inRound l (callsIn_wide.2 (agg1_any op _))).mono ?_; rintro e w' ⟨rfl, rfl⟩; rw [HAdd.out]) | (gi_at_builtin; refine wpListIn_append_own _ rfl _ _ 137 rfl w.heap.size 3 i0 (.int .i64 0) 1 8 Tryz.underlying137 hi hz0 hz1 hz2 rfl (by decide) _ q _ rfl (HCut.out.alloc _) ⟨W.heap.size, 0, none⟩ 1 1 [_] rfl rfl (cell_one_new _ _ _) (by simp [Value.oneCell']) (by unfold maxLen; omega) (by omega) (by simp; omega) ?_; intro v' w4 hown4 hg4 _; obtain ⟨g', cap', rfl⟩ := ownsRow_succ hown4; obtain ⟨hv1, hv2, hr2, hk2, hb2⟩ := boxed_stored HbV.out (by decide) HCut.out (by omega) (by omega) hown4 hg4; obtain ⟨_, hc2⟩ := boxed_through HbC.out (B := Bw) (v' := .slice (some ⟨g', 0, none⟩) (q + 1) cap') (by decide) (by omega) HCut.out hg4; obtain ⟨_, hd2⟩ := boxed_through HbS.out (B := Bw) (v' := .slice (some ⟨g', 0, none⟩) (q + 1) cap') (by decide) (by omega) HCut.out hg4; have hc1 := hv1.cell; have hf1 := hv1.frozen))
              all_goals
                rw [← HFin.out, HAdd.out]
                try rw [Nat.add_zero]
                have hcell := HbS.out.cell
                have hdl2 := HDl.out
                have hkb := HBd.out.trans hb2
                have hrow2 : ∀ v : Nat, ((v :: S.drop j).map fun (v : Nat) => Value.int .i64 (v : Int)).reverse = ((S.drop j).map fun (v : Nat) => Value.int .i64 (v : Int)).reverse ++ [.int .i64 (v : Int)] := fun v => by simp
                have hlen2 : ∀ v : Nat, (v :: S.drop j).length = q + 1 := fun v => by rw [List.length_cons, hdl2]
                unfold roundEnd
                dsimp only
                refine ⟨((KeepsOthers.drew W).trans hk2).from _, ⟨hkb, fun u hu => ?_⟩, ⟨⟨_, hv2, ?_, g', cap', ?_⟩, hc2, hd2⟩, HB1.out.trans hkb⟩
                · rw [hd2.cell, ← hcell]
                  exact hu
                · rw [hrow2, hlen2]
                  first
                    | exact hr2
                    | (rw [Int.natCast_add]; exact hr2)
                · rw [hlen2]
  case done =>
    rintro D W hD ⟨⟨⟨v, bV, hrw, g, cap, rfl⟩, bC1, bS1⟩, hB1⟩ hK
    have htop := top_whole HO.out false
    rw [if_neg (by decide)] at htop
    rw [Nat.sub_self, List.drop_zero, htop] at bV hrw
    unfold rowT at hrw
    rw [List.drop_zero, htop] at hrw
    have cW := bV.cell
    have c0 := hrw.cellAt 0 (by simp)
    obtain ⟨d, hd⟩ : ∃ d, (levF xs).2 = d := ⟨_, rfl⟩
    rw [hd] at c0
    have HD := Lib.hid hd
    have c1 : W.cell? ⟨g, 0, none⟩ = some (.int .i64 (d : Int)) := by rw [c0]; rfl
    have HB1 := Lib.hid hB1
    clear hB1 c0 hrw bV htop hd
    gi_wp2
    refine ⟨by simp, .inl ⟨_, _, rfl, run_takeDeferred hK, ?_⟩⟩
    refine ⟨_, results_tmp rfl _ _ _, by rw [HD.out]; rfl, HB1.out.trans (belowK_b (w := w) (Nat.le_refl _) W D _ _ (by omega) hK rfl rfl)⟩
end Go.Proofs.YtdbahiepihkagaaGreatDoor
namespace Go.Proofs.YtdbahiepihkagaaGreatDoor
set_option maxRecDepth 100000
open Go.RowKit

theorem most0_any (a : Option Addr) (c : Nat) (xs : List (Int × Int)) (fv : Value) (w : World) (hX : LinksAt w a xs) (hn : xs.length ≤ 1000) (h1 : oneB xs = false) (hf : fv = .func (.func 135) #[] #[] ∨ fv = .func (.func 136) #[] #[]) :
    Calls Tryz.prog 134 #[.slice a xs.length c, fv] w fun e w' => e = .returned (.int .i64 0) ∧ Below w.heap.size w w' := by
  have he : (endF xs 0 != xs.length) = true := by
    rw [one_end] at h1
    simpa using h1
  have HE := Lib.hid (fun (W : World) (hb : Below w.heap.size w W) => endP_any a c xs 0 W (hX.below hb) (by omega))
  generalize xs.length = m at HE he ⊢
  generalize endF xs 0 = z at HE he
  have hB0 : ∀ fv, Below w.heap.size w (w.alloc (.cells #[fv] 118)) := fun fv => (Below.refl _ w).alloc (Nat.le_refl _) _
  clear hX h1
  rcases hf with rfl | rfl
  all_goals
    have hB1 := hB0 (.func (.func 135) #[] #[])
    have hB2 := hB0 (.func (.func 136) #[] #[])
    have HE1 := Lib.hid (HE.out _ hB1)
    have HE2 := Lib.hid (HE.out _ hB2)
    clear HE hB0
    go_enter Tryz.func134, Tryz.ntmps134
    go_wp2_with (go_at_call 67; first | (with_reducible refine HE1.out.mono ?_; rintro e w1 ⟨rfl, hb1⟩) | (with_reducible refine HE2.out.mono ?_; rintro e w1 ⟨rfl, hb1⟩))
    go_ret
    exact ⟨rfl, by first | exact hB1.trans (hb1.mono hB1.size) | exact hB2.trans (hb1.mono hB2.size)⟩
theorem depthP_any (a : Option Addr) (c : Nat) (xs : List (Int × Int)) (w : World) (hX : LinksAt w a xs) (hn : xs.length ≤ 1000) :
    Calls Tryz.prog 68 #[.slice a xs.length c] w fun e w' => e = .returned (.int .i64 (depF xs)) ∧ Below w.heap.size w w' := by
  have HO : Hid (Calls Tryz.prog 134 #[.slice a xs.length c, .func (.func 135) #[] #[]] w fun e w' => e = .returned (.int .i64 (depF xs)) ∧ Below w.heap.size w w') := by
    refine Lib.hid ?_
    unfold depF
    cases h : oneB xs with
    | false => exact most0_any a c xs _ w hX hn h (.inl rfl)
    | true => exact mostA_any a c xs w hX hn h
  generalize depF xs = d at HO ⊢
  generalize xs.length = m at HO ⊢
  clear hX hn
  go_enter Tryz.func68, Tryz.ntmps68
  go_wp2_with (go_at_call 134; refine HO.out.mono ?_; rintro e w1 ⟨rfl, hb1⟩)
  go_ret
  exact ⟨rfl, hb1⟩
theorem nestP_any (a : Option Addr) (c : Nat) (xs : List (Int × Int)) (w : World) (hX : LinksAt w a xs) (hn : xs.length ≤ 1000) :
    Calls Tryz.prog 69 #[.slice a xs.length c] w fun e w' => e = .returned (.int .i64 (nesF xs)) ∧ Below w.heap.size w w' := by
  have HO : Hid (Calls Tryz.prog 134 #[.slice a xs.length c, .func (.func 136) #[] #[]] w fun e w' => e = .returned (.int .i64 (nesF xs)) ∧ Below w.heap.size w w') := by
    refine Lib.hid ?_
    unfold nesF
    cases h : oneB xs with
    | false => exact most0_any a c xs _ w hX hn h (.inr rfl)
    | true => exact mostB_any a c xs w hX hn h
  generalize nesF xs = d at HO ⊢
  generalize xs.length = m at HO ⊢
  clear hX hn
  go_enter Tryz.func69, Tryz.ntmps69
  go_wp2_with (go_at_call 134; refine HO.out.mono ?_; rintro e w1 ⟨rfl, hb1⟩)
  go_ret
  exact ⟨rfl, hb1⟩
end Go.Proofs.YtdbahiepihkagaaGreatDoor
namespace Go.Proofs.YtdbahiepihkagaaGreatDoor
set_option maxRecDepth 100000
open Go.RowKit

theorem boxT {w w' : World} {C : Array Value} {t : TypeId} (h : Below (w.alloc (.cells C t)).heap.size (w.alloc (.cells C t)) w') (i : Nat) : w'.cell? ⟨w.heap.size, i, none⟩ = C[i]? :=
  (h.cell (p := ⟨w.heap.size, i, none⟩) (by simp)).trans (World.cell?_alloc_new w C t i)
theorem belT {w w' : World} {o : Obj} (h : Below (w.alloc o).heap.size (w.alloc o) w') : Below w.heap.size w w' :=
  (((Below.refl _ _).alloc (Nat.le_refl _) o).trans (h.mono (by simp)))
/-- whether a term reads a variable -/
def varB (op : Int) : Bool := decide (op = 5 ∨ op = 12)
theorem varT_any (op x : Int) (w : World) : Calls Tryz.prog 138 #[.agg #[.int .i64 op, .int .i64 x]] w fun e w' => e = .returned (.bool (varB op)) ∧ Below w.heap.size w w' := by
  have HB := Lib.hid (fun n => belDraws ((Below.refl _ _).alloc (Nat.le_refl w.heap.size) (.cells #[.int .i64 op, .int .i64 x] 55)) n)
  have HB0 := Lib.hid ((Below.refl w.heap.size w).alloc (Nat.le_refl _) (.cells #[.int .i64 op, .int .i64 x] 55))
  unfold varB
  by_cases h5 : op = 5
  · subst h5
    go_enter Tryz.func138, Tryz.ntmps138
    go_wp2
    try (go_quiet (fail); go_wp2)
    go_ret
    exact ⟨rfl, by first | exact HB0.out | exact HB.out _⟩
  · by_cases h12 : op = 12
    · subst h12
      go_enter Tryz.func138, Tryz.ntmps138
      go_wp2
      try (go_quiet (fail); go_wp2)
      go_ret
      exact ⟨rfl, by first | exact HB0.out | exact HB.out _⟩
    · have q5 : (op == 5) = false := by simpa using h5
      have q12 : (op == 12) = false := by simpa using h12
      have hf : decide (op = 5 ∨ op = 12) = false := by simp [h5, h12]
      rw [hf]
      clear hf h5 h12
      go_enter Tryz.func138, Tryz.ntmps138
      go_wp2
      try (go_quiet (fail); go_wp2)
      go_ret
      exact ⟨rfl, by first | exact HB0.out | exact HB.out _⟩

theorem rangeP_any (op x vars : Int) (w : World) (hv : I64 vars) : Calls Tryz.prog 72 #[.agg #[.int .i64 op, .int .i64 x], .int .i64 vars] w fun e w' => e = .returned (.bool (argB (op, x) vars)) ∧ Below w.heap.size w w' := by
  have hB0 := (Below.refl w.heap.size w).alloc (Nat.le_refl _) (.cells #[.int .i64 op, .int .i64 x] 55)
  have HB0 := Lib.hid hB0
  have HVc := Lib.hid (fun (W : World) => varT_any op x W)
  obtain ⟨V, hV⟩ : ∃ V : Int, V = if op = 1 then 1073741825 else if op = 5 ∨ op = 12 then vars else 1 := ⟨_, rfl⟩
  have hb : argB (op, x) vars = (decide (0 ≤ x) && decide (x < V)) := by
    rw [hV, Bool.eq_iff_iff]
    unfold argB
    dsimp only
    repeat' split
    all_goals simp
    all_goals omega
  generalize argB (op, x) vars = b at hb ⊢
  have HBb := Lib.hid hb
  clear hb hB0
  have hop : (op = 1 ∧ V = 1073741825) ∨ (op ≠ 1 ∧ varB op = true ∧ V = vars) ∨ (op ≠ 1 ∧ varB op = false ∧ V = 1) := by
    unfold varB
    rw [hV]
    by_cases h1 : op = 1
    · exact .inl ⟨h1, by rw [if_pos h1]⟩
    · by_cases h2 : op = 5 ∨ op = 12
      · exact .inr (.inl ⟨h1, by simp [h2], by rw [if_neg h1, if_pos h2]⟩)
      · exact .inr (.inr ⟨h1, by simp only [decide_eq_false_iff_not]; exact h2, by rw [if_neg h1, if_neg h2]⟩)
  clear hV
  by_cases h0 : 0 ≤ x
  all_goals by_cases hx : x < V
  all_goals
    have d0 : decide (0 ≤ x) = decide (0 ≤ x) := rfl
    conv at d0 => rhs; simp only [h0, decide_true, decide_false]
    have d1 : decide (x < V) = decide (x < V) := rfl
    conv at d1 => rhs; simp only [hx, decide_true, decide_false]
    have HR := Lib.hid (HBb.out.trans (by rw [d0, d1]))
    clear HBb
    rcases hop with ⟨rfl, rfl⟩ | ⟨h1, hvb, rfl⟩ | ⟨h1, hvb, rfl⟩
    all_goals
      first
      | (exfalso; omega)
      | (have q1 : (op == 1) = false := by simpa using h1
         clear h1
         go_enter Tryz.func72, Tryz.ntmps72
         go_wp2_with (go_at_call 138; refine (HVc.out _).mono ?_; rintro e w1 ⟨rfl, hb1⟩; rw [hvb]; have hx0 : w1.cell? ⟨w.heap.size, 0, none⟩ = some (.int .i64 op) := boxT hb1 0; have hx1 : w1.cell? ⟨w.heap.size, 1, none⟩ = some (.int .i64 x) := boxT hb1 1)
         try (go_quiet (fail); go_wp2)
         go_ret
         exact ⟨ret_bool (by rw [HR.out] <;> rfl), by first | exact belT hb1 | exact belDraws (belT hb1) _⟩)
      | (go_enter Tryz.func72, Tryz.ntmps72
         go_wp2
         try (go_quiet (fail); go_wp2)
         go_ret
         exact ⟨ret_bool (by rw [HR.out] <;> rfl), by first | exact HB0.out | exact belDraws HB0.out _⟩)
end Go.Proofs.YtdbahiepihkagaaGreatDoor
