/- What Parse of package graphtext answers. -/
import Derived.Test.YtahhndhaciijpaaDoorParseG0
namespace Go.Proofs.YtahhndhaciijpaaDoor
open Go.RowKit

set_option maxRecDepth 100000 in
set_option maxHeartbeats 8000000 in
theorem parseG_short (hlines : LinesSay 19 linesT) (hnode : NodeSay 20) (s : ByteArray) (w : World) (hg : Gl w) (hs : s.size ≤ 16384) :
    Calls Tryd.prog 10 #[.string s] w fun e w' => ParseSays s.data.toList e w' ∧ Below w.heap.size w w' := by
  obtain ⟨i0, hi, hz0, hz1, hz2⟩ := info_parts info3
  obtain ⟨j0, hj, hy0, hy1, hy2⟩ := info_parts infoRow
  have d1 : decide (16384 < (s.size : Int)) = false := by simp; omega
  have hlen : s.data.toList.length = s.size := by simp
  have Htext := Lib.hid (linesT_read s.data.toList)
  have hll := linesT_len s.data.toList
  have Hshort := Lib.hid (fun i (h : i < (linesT s.data.toList).length) => linesT_short (word_mem h))
  rw [hlen] at hll
  have Hlen := Lib.hid hlen
  have hlin := fun W hW => hlines s W hW (by omega)
  clear hlen
  generalize hls : linesT s.data.toList = ls at *
  clear hls
  have HG := Lib.hid hg
  clear hg
  go_enter Tryd.func10, Tryd.ntmps10
  go_wp2_with (go_at_call 19; refine (hlin _ ((HG.out.below ((Below.refl _ _).alloc (Nat.le_refl _) _)).below ((Below.refl _ _).alloc (Nat.le_refl _) _))).mono ?_; rintro e w1 ⟨⟨b, cap, rfl, hb, hS⟩, hb1⟩)
  have Hb1 : Hid (Below (w.heap.size + 2) ((w.alloc (.cells #[.slice none 0 0, .slice none 0 0] 26)).alloc (.cells #[.slice none 0 0, .slice none 0 0] 26)) w1) := Lib.hid (by simpa using hb1)
  have HGl1 : Hid (Gl w1) := Lib.hid (((HG.out.below ((Below.refl _ _).alloc (Nat.le_refl _) _)).below ((Below.refl _ _).alloc (Nat.le_refl _) _)).below hb1)
  have HS := Lib.hid hS
  clear hS hlin
  have hsz1 := Hb1.out.size
  simp at hsz1 hb
  have hw0 : Two w1 (w.heap.size + 1) 3 39 w1 (.slice none 0 0) (.slice none 0 0) (.slice none 0 0) (idsV []) (.slice none 0 0) (([] : List (Value × List Port)).map Prod.fst) [] [] := by
    refine ⟨by omega, World.grownBy.refl _ _, ?_, ?_, ?_, ?_, World.ownsRow_nil _ _ _ _, World.ownsRow_nil _ _ _ _, .inl rfl, fun p hp => by simp at hp, fun p hp => by simp at hp⟩
    · rw [Hb1.out.cell (p := ⟨w.heap.size + 1, 0, none⟩) (by simp)]; simp [cell_push']
    · rw [Hb1.out.cell (p := ⟨w.heap.size + 1, 1, none⟩) (by simp)]; simp [cell_push']
    · rw [Hb1.out.frozen (p := ⟨w.heap.size + 1, 0, none⟩) (by simp)]; simp [free_push']
    · rw [Hb1.out.frozen (p := ⟨w.heap.size + 1, 1, none⟩) (by simp)]; simp [free_push']
  have HT0 := Lib.hid hw0
  clear hw0 hb1
  go_loopw [18] (fun t wr => ∃ (k : Nat) (xs : List Node) (v1 v2 : Value) (ps : List (Value × List Port)), t = .int .i64 k ∧ ReadTo ls k xs ∧ ps.map Prod.snd = xs.map Prod.snd ∧ Two w1 (w.heap.size + 1) 3 39 wr v1 v2 v1 (idsV xs) v2 (ps.map Prod.fst) ps []) (fun t _ => ls.length - (intOf t).toNat)
  case atStart => exact ⟨0, [], _, _, [], rfl, ReadTo.zero _, rfl, HT0.out⟩
  case round =>
    obtain ⟨k, xs, v1, v2, ps, rfl, hR, hps, hT⟩ := hrel
    have hkn := hR.1
    have hxl := hR.len
    have HR := Lib.hid hR
    have HP := Lib.hid hps
    clear hR hps
    have hgr := hT.fr
    -- the cells of the result, which nobody has written
    have far : ∀ (b' i : Nat), b' < w1.heap.size → b' ≠ w.heap.size + 1 → wr.cell? ⟨b', i, none⟩ = w1.cell? ⟨b', i, none⟩ := fun b' i h1 h2 => World.cell?_of_block (hgr.block b' h1 (by simpa using h2))
    have farf : ∀ (b' i : Nat), b' < w1.heap.size → b' ≠ w.heap.size + 1 → wr.frozen? ⟨b', i, none⟩ = w1.frozen? ⟨b', i, none⟩ := fun b' i h1 h2 => World.frozen?_of_block (hgr.block b' h1 (by simpa using h2))
    have r0 : wr.cell? ⟨w.heap.size, 0, none⟩ = some (.slice none 0 0) := by rw [far _ _ (by omega) (by omega), Hb1.out.cell (p := ⟨w.heap.size, 0, none⟩) (by simp)]; simp [cell_push']
    have r1 : wr.cell? ⟨w.heap.size, 1, none⟩ = some (.slice none 0 0) := by rw [far _ _ (by omega) (by omega), Hb1.out.cell (p := ⟨w.heap.size, 1, none⟩) (by simp)]; simp [cell_push']
    have q0 : wr.frozen? ⟨w.heap.size, 0, none⟩ = false := by rw [farf _ _ (by omega) (by omega), Hb1.out.frozen (p := ⟨w.heap.size, 0, none⟩) (by simp)]; simp [free_push']
    have q1 : wr.frozen? ⟨w.heap.size, 1, none⟩ = false := by rw [farf _ _ (by omega) (by omega), Hb1.out.frozen (p := ⟨w.heap.size, 1, none⟩) (by simp)]; simp [free_push']
    have gl : Gl wr := by
      obtain ⟨m, hm⟩ := HGl1.out
      have hlt : 1 < w1.heap.size := cell_lt hm
      have hlt2 : 1 < w.heap.size := by obtain ⟨_, hm'⟩ := HG.out; exact cell_lt hm'
      exact ⟨m, by rw [far _ _ hlt (by omega)]; exact hm⟩
    have Hbw : Hid (Below w.heap.size w wr) := Lib.hid (by
      have h0 : Below w.heap.size w w1 := (((Below.refl _ _).alloc (Nat.le_refl _) _).alloc (by simp) _).trans (Hb1.out.mono (by simp))
      exact h0.grown hgr (by omega) (fun j hj => by have : w.heap.size + 1 = j := by simpa using hj
                                                    omega))
    by_cases hlt : k < ls.length
    · have hc : wr.cell? ⟨b, k, none⟩ = some (.string ⟨(wordA ls k).toArray⟩) := by
        have h1 := strs_cell HS.out hlt
        have h2 := cell_lt h1
        simp at h2
        rw [far _ _ h2 (by omega)]
        exact h1
      have hnd := hnode (wordA ls k) wr gl (by have := Hshort.out k hlt; rw [Hlen.out] at this; omega)
      clear far farf gl hgr
      cases hl : lineB (wordA ls k) with
      | none =>
        have hnd2 : Calls Tryd.prog 20 #[.string ⟨(wordA ls k).toArray⟩] wr fun e w' => e = .returned (.tuple #[.int .i64 0, .slice none 0 0, .bool false]) ∧ Below wr.heap.size wr w' := hnd.mono fun e w' ⟨h1, h2⟩ => ⟨(by
          rcases h1 with ⟨_, h1⟩ | ⟨_, _, _, h1, _⟩
          · exact h1
          · rw [hl] at h1; cases h1), h2⟩
        have Hbad := Lib.hid (HR.out.bad hlt hl)
        have hk1 : k + 1 ≤ 1000000 := by omega
        clear hnd hl
        go_wp2_with (go_at_call 20; refine hnd2.mono ?_; rintro e w2 ⟨rfl, hb2⟩; have e0 := (hb2.cell (p := ⟨w.heap.size, 0, none⟩) (cell_lt r0)).trans r0; have e1 := (hb2.cell (p := ⟨w.heap.size, 1, none⟩) (cell_lt r1)).trans r1; have e2 := (hb2.frozen (p := ⟨w.heap.size, 0, none⟩) (cell_lt r0)).trans q0; have e3 := (hb2.frozen (p := ⟨w.heap.size, 1, none⟩) (cell_lt r1)).trans q1)
        have E4 : Hid (∀ u0 u1, Below w.heap.size w ((w2.setCell ⟨w.heap.size, 0, none⟩ u0).setCell ⟨w.heap.size, 1, none⟩ u1)) := Lib.hid (fun u0 u1 => (((Hbw.out.trans (hb2.mono Hbw.out.size)).setCell (by simp) _).setCell (by simp) _))
        clear hb2
        refine bodyPost_ret (v := .tuple #[.agg #[.slice none 0 0, .slice none 0 0], .int .i64 ((k : Int) + 1), .int .i64 4]) (by rw [results_ctt rfl]; go_simp) rfl ?_
        refine ⟨.inr (.inl ⟨by rw [Hlen.out]; omega, k + 1, by rw [Htext.out, Hbad.out], rfl⟩), ?_⟩
        first | exact Hbw.out.trans (hb2.mono Hbw.out.size) | exact E4.out _ _
      | some x =>
        have hnd2 : Calls Tryd.prog 20 #[.string ⟨(wordA ls k).toArray⟩] wr fun e w' => (∃ (la : Option Addr) (lc : Nat), e = .returned (.tuple #[.int .i64 (x.1 : Int), .slice la x.2.length lc, .bool true]) ∧ LinkRow wr.heap.size w' (.slice la x.2.length lc) x.2) ∧ Below wr.heap.size wr w' := hnd.mono fun e w' ⟨h1, h2⟩ => ⟨(by
          rcases h1 with ⟨h1, _⟩ | ⟨id, ps', v, h1, h3, h4⟩
          · rw [hl] at h1; cases h1
          · rw [hl] at h1
            obtain rfl : x = (id, ps') := by simpa using h1
            obtain ⟨la, lc, rfl, _⟩ := own_slice h4
            exact ⟨la, lc, h3, h4⟩), h2⟩
        have Hnext := Lib.hid (HR.out.next hlt hl)
        clear hnd hl
        have o1 := hT.o1
        have o2 := hT.o2
        obtain ⟨a1, c1, rfl, m1, _⟩ := own_slice o1
        obtain ⟨a2, c2, rfl, m2, _⟩ := own_slice o2
        have L1 : (idsV xs).length = k := by simp [idsV, hxl]
        have L2 : (ps.map Prod.fst).length = k := by
          have := congrArg List.length HP.out
          simp at this
          simp [this, hxl]
        have HT := Lib.hid hT
        have HL1 := Lib.hid L1
        have HL2 := Lib.hid L2
        clear hT o1 o2
        rw [L1] at HT
        rw [L2] at HT
        go_wp2_with (go_at_call 20; refine hnd2.mono ?_; rintro e w2 ⟨⟨la, lc, rfl, hlr⟩, hb2⟩)
        have HT2 := Lib.hid (two_next HT.out hb2 hlr)
        have k0 := HT2.out.c0
        have k1 := HT2.out.c1
        have k2 := HT2.out.f0
        have k3 := HT2.out.f1
        have z0 := World.new_ne w2 _ k0
        have z1 := World.new_ne w2 _ k1
        have y0 := (HT2.out.one (.int .i64 (x.1 : Int)) 3).c0
        have y1 := (HT2.out.one (.int .i64 (x.1 : Int)) 3).c1
        have y2 := (HT2.out.one (.slice la x.2.length lc) 39).c0
        have y3 := (HT2.out.one (.slice la x.2.length lc) 39).c1
        have y4 := ((HT2.out.one (.int .i64 (x.1 : Int)) 3).one (.slice la x.2.length lc) 39).c0
        have y5 := ((HT2.out.one (.int .i64 (x.1 : Int)) 3).one (.slice la x.2.length lc) 39).c1
        have y6 := ((HT2.out.one (.slice la x.2.length lc) 39).one (.int .i64 (x.1 : Int)) 3).c0
        have y7 := ((HT2.out.one (.slice la x.2.length lc) 39).one (.int .i64 (x.1 : Int)) 3).c1
        have HB2 := Lib.hid hb2
        have HLR := Lib.hid hlr
        have hk1 : k + 1 ≤ 1000000 := by omega
        have Hk1 : Hid ((idsV xs).length + 1 ≤ 1000000) := Lib.hid (by rw [HL1.out]; omega)
        have Hk2 : Hid ((ps.map Prod.fst).length + 1 ≤ 1000000) := Lib.hid (by rw [HL2.out]; omega)
        have HE1 : Hid (idsV (xs ++ [x]) = idsV xs ++ [.int .i64 (x.1 : Int)]) := Lib.hid (by simp [idsV])
        have HE2 : Hid ((ps ++ [(Value.slice la x.2.length lc, x.2)]).map Prod.fst = ps.map Prod.fst ++ [Value.slice la x.2.length lc]) := Lib.hid (by simp)
        clear hlr hb2 r0 r1 q0 q1 hc hnd2
        go_region_law (first
          | ((refine step_two1 (P := Tryd.prog) (by rfl) (.tmp 35) (.tmp 37) 23 (by rfl) i0 (.int .i64 0) 8 Tryd.underlying23 hi hz0 hz1 hz2 rfl _ (.int .i64 (x.1 : Int)) (by rfl) (by rfl) (by first | exact (HT2.out.one _ _).drew | exact ((HT2.out.one _ _).one _ _).drew) (by simp) rfl Hk1.out (by decide) ?_); intro g3 cap3 w3 hT3; rw [HL1.out] at hT3 ⊢; have k0 := hT3.c0; have k1 := hT3.c1; have k2 := hT3.f0; have k3 := hT3.f1; have z0 := World.new_ne w3 _ k0; have z1 := World.new_ne w3 _ k1; have y0 := (hT3.one (.slice la x.2.length lc) 39).c0; have y1 := (hT3.one (.slice la x.2.length lc) 39).c1; have HT3 := Lib.hid hT3; clear hT3)
          | ((refine step_two2 (P := Tryd.prog) (by rfl) (.tmp 40) (.tmp 42) 24 (by rfl) j0 (.slice none 0 0) 24 Tryd.underlying24 hj hy0 hy1 hy2 rfl _ (.slice la x.2.length lc) (by rfl) (by rfl) (by first | exact HT3.out | exact HT3.out.one _ _) (by simp) rfl Hk2.out (by decide) ?_); intro g4 cap4 w4 hT4; rw [HL2.out] at hT4 ⊢; have k0 := hT4.c0; have k1 := hT4.c1; have k2 := hT4.f0; have k3 := hT4.f1; have z0 := World.new_ne w4 _ k0; have z1 := World.new_ne w4 _ k1; have HT4 := Lib.hid hT4; clear hT4))
        all_goals
          have HT5 : Hid (∀ y1 y2 : Value, Two w1 (w.heap.size + 1) 3 39 ((w4.setCell ⟨w.heap.size + 1, 0, none⟩ y1).setCell ⟨w.heap.size + 1, 1, none⟩ y2) y1 y2 (.slice (some ⟨g3, 0, none⟩) (k + 1) cap3) (idsV (xs ++ [x])) (.slice (some ⟨g4, 0, none⟩) (k + 1) cap4) ((ps ++ [(Value.slice la x.2.length lc, x.2)]).map Prod.fst) (ps ++ [(Value.slice la x.2.length lc, x.2)]) []) := Lib.hid (fun y1 y2 => by rw [HE1.out, HE2.out]; exact HT4.out.store y1 y2)
          clear k0 k1 k2 k3 z0 z1
          go_wp2
          go_roundw
          case rel => exact ⟨k + 1, xs ++ [x], _, _, ps ++ [(Value.slice la x.2.length lc, x.2)], by go_num, Hnext.out, by rw [List.map_append, List.map_append, HP.out]; rfl, HT5.out _ _⟩
          case measure => simp [intOf]; omega
    · obtain rfl : k = ls.length := by omega
      have Hall := Lib.hid HR.out.all
      obtain ⟨ia, ic, pa, pc, rfl, rfl, hGr⟩ := two_graph hT HP.out HR.out.small
      have b0 := hT.c0
      have b1 := hT.c1
      rw [hxl] at b0 b1 hGr
      have hval := valid_any ia pa ls.length ic ls.length pc (grOf xs) wr hGr
      have HGr := Lib.hid hGr
      have HT := Lib.hid hT
      clear hT hGr far farf hgr gl hlt
      cases hv : validB (grOf xs) with
      | false =>
        rw [hv] at hval
        go_wp2_with (go_at_call 21; refine hval.mono ?_; rintro e w2 ⟨rfl, hb2⟩; have e0 := (hb2.cell (p := ⟨w.heap.size, 0, none⟩) (cell_lt r0)).trans r0; have e1 := (hb2.cell (p := ⟨w.heap.size, 1, none⟩) (cell_lt r1)).trans r1; have e2 := (hb2.frozen (p := ⟨w.heap.size, 0, none⟩) (cell_lt r0)).trans q0; have e3 := (hb2.frozen (p := ⟨w.heap.size, 1, none⟩) (cell_lt r1)).trans q1)
        have E4 : Hid (∀ u0 u1, Below w.heap.size w ((w2.setCell ⟨w.heap.size, 0, none⟩ u0).setCell ⟨w.heap.size, 1, none⟩ u1)) := Lib.hid (fun u0 u1 => (((Hbw.out.trans (hb2.mono Hbw.out.size)).setCell (by simp) _).setCell (by simp) _))
        have HB2 := Lib.hid hb2
        clear hb2
        refine bodyPost_ret (v := .tuple #[.agg #[.slice none 0 0, .slice none 0 0], .int .i64 0, .int .i64 1]) (by rw [results_ctt rfl]; go_simp) rfl ?_
        exact ⟨.inr (.inr (.inl ⟨by rw [Hlen.out]; omega, xs, by rw [Htext.out, Hall.out], hv, rfl⟩)), E4.out _ _⟩
      | true =>
        rw [hv] at hval
        go_wp2_with (go_at_call 21; refine hval.mono ?_; rintro e w2 ⟨rfl, hb2⟩; have e0 := (hb2.cell (p := ⟨w.heap.size, 0, none⟩) (cell_lt r0)).trans r0; have e1 := (hb2.cell (p := ⟨w.heap.size, 1, none⟩) (cell_lt r1)).trans r1; have e2 := (hb2.frozen (p := ⟨w.heap.size, 0, none⟩) (cell_lt r0)).trans q0; have e3 := (hb2.frozen (p := ⟨w.heap.size, 1, none⟩) (cell_lt r1)).trans q1; have e5 := (hb2.cell (p := ⟨w.heap.size + 1, 0, none⟩) (cell_lt b0)).trans b0; have e6 := (hb2.cell (p := ⟨w.heap.size + 1, 1, none⟩) (cell_lt b1)).trans b1)
        have E4 : Hid (∀ u0 u1, Below w.heap.size w ((w2.setCell ⟨w.heap.size, 0, none⟩ u0).setCell ⟨w.heap.size, 1, none⟩ u1)) := Lib.hid (fun u0 u1 => (((Hbw.out.trans (hb2.mono Hbw.out.size)).setCell (by simp) _).setCell (by simp) _))
        have E5 : Hid (∀ u0 u1, GraphAt ((w2.setCell ⟨w.heap.size, 0, none⟩ u0).setCell ⟨w.heap.size, 1, none⟩ u1) ia xs.length pa xs.length (grOf xs)) := Lib.hid (fun u0 u1 => two_graph_far (HT.out.below hb2) HP.out HR.out.small ((grown_set w2 w.heap.size 0 u0).trans (grown_set _ w.heap.size 1 u1)) (by omega))
        rw [hxl] at E5
        have HB2 := Lib.hid hb2
        clear hb2
        refine bodyPost_ret (v := .tuple #[.agg #[.slice ia ls.length ic, .slice pa ls.length pc], .int .i64 0, .int .i64 0]) (by rw [results_ctt rfl]; go_simp) rfl ?_
        exact ⟨.inr (.inr (.inr ⟨by rw [Hlen.out]; omega, xs, by rw [Htext.out, Hall.out], hv, ia, ls.length, ic, pa, ls.length, pc, rfl, E5.out _ _⟩)), E4.out _ _⟩
end Go.Proofs.YtahhndhaciijpaaDoor
