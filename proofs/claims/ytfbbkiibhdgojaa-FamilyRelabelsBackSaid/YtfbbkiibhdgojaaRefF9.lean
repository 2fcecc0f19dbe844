/- What Identify of the specification of layer 3 answers. -/
import Derived.Test.YtfbbkiibhdgojaaRefF8
import Derived.Test.YtfbbkiibhdgojaaRef01V
namespace Go.Proofs.Ytfbbkiibhdgojaa
open Go.RowKit

noncomputable def identO (G : Gr) (zs : List Int) : Int ⊕ Gr := if validB G = true then (if validB ⟨zs, G.ps⟩ = true then .inr ⟨zs, G.ps⟩ else .inl 2) else .inl 1
theorem fit_ps {w : World} {ia pa : Option Addr} {il pl : Nat} {G : Gr} (hG : GraphAt w ia il pa pl G) : ∀ p ∈ G.ps, ∀ x ∈ p, I64 x.1 ∧ I64 x.2 := by
  intro p hp x hx
  obtain ⟨v, hv, rfl⟩ := List.getElem_of_mem hp
  obtain ⟨b, o, _, _, hrow⟩ := hG.ports.row (by omega)
  obtain ⟨la, lc, _, hL⟩ := hrow v hv
  have e : rowA G.ps v = G.ps[v] := by simp [rowA, List.getD, List.getElem?_eq_getElem hv]
  rw [e] at hL
  exact hL.fits x hx
theorem Made.newIds {W w w' : World} {gb m cap : Nat} {a : Option Addr} {x1 x2 v1 v2 : Value} {zs ys : List Int} {hs : List Value} {us : List (Value × List (Int × Int))} (h : Made W gb w x1 x2 v1 zs v2 hs us) (hb : Below w.heap.size w w')
    (ho : w'.ownsRow w.heap.size 3 1 (.slice a m cap) ys.length (intsV ys)) : Made W gb w' x1 x2 (.slice a m cap) ys v2 hs us :=
  h.turnIds ⟨hb.os, hb.tape, hb.output, hb.size, fun k hk _ => hb.block k hk⟩ (Go.Joins.ownsRow_le ho h.fr.size) (fun g e => .inr (World.ownsRow.lt ho g e).1)
theorem Made.graphIs {W w : World} {gb n m q1 q2 : Nat} {a1 a2 : Option Addr} {x1 x2 : Value} {G : Gr} {us : List (Value × List (Int × Int))} (h : Made W gb w x1 x2 (.slice a1 n q1) G.ids (.slice a2 m q2) (us.map Prod.fst) us) (hn : n = G.ids.length) (hm : m = G.ps.length) (hu : us.map Prod.snd = G.ps) (hf : FitG G) : GraphAt w a1 n a2 m G := by
  have hl : us.length = G.ps.length := by rw [← hu]; simp
  have hf' : FitG ⟨G.ids, us.map Prod.snd⟩ := by rw [hu]; exact hf
  obtain ⟨ia, ic, pa, pc, e1, e2, hG⟩ := h.graph hf'
  injection e1 with e1
  injection e2 with e2
  subst e1 e2
  rw [hu, hl] at hG
  subst hn hm
  exact hG
theorem Made.graphIsFar {W w w' : World} {gb n m q1 q2 r : Nat} {a1 a2 : Option Addr} {x1 x2 : Value} {G : Gr} {us : List (Value × List (Int × Int))} (h : Made W gb w x1 x2 (.slice a1 n q1) G.ids (.slice a2 m q2) (us.map Prod.fst) us) (hn : n = G.ids.length) (hm : m = G.ps.length) (hu : us.map Prod.snd = G.ps) (hf : FitG G) (hg : w.grownBy w' (some r)) (hr : r < W.heap.size) : GraphAt w' a1 n a2 m G := by
  have hl : us.length = G.ps.length := by rw [← hu]; simp
  subst hn hm
  have hf' : FitG ⟨G.ids, us.map Prod.snd⟩ := by rw [hu]; exact hf
  have h' : Made W gb w x1 x2 (.slice a1 G.ids.length q1) G.ids (.slice a2 us.length q2) (us.map Prod.fst) us := by rw [hl]; exact h
  have := h'.graphFar hf' hg hr
  rw [hu, hl] at this
  exact this
set_option linter.unusedSimpArgs false in
set_option maxHeartbeats 4000000 in
set_option maxRecDepth 100000 in
theorem identify_any (ia pa : Option Addr) (il ic pl pc : Nat) (G : Gr) (a : Option Addr) (c : Nat) (zs : List Int) (w : World) (hG : GraphAt w ia il pa pl G) (hz : IntsAt w a zs) (hzl : zs.length ≤ 1000) :
    Calls Try.prog 10 #[.agg #[.slice ia il ic, .slice pa pl pc], .slice a zs.length c] w fun e w' => FamSays (identO G zs) e w' ∧ Below w.heap.size w w' := by
  have hbel0 : Below w.heap.size w ((w.alloc (.cells #[.slice ia il ic, .slice pa pl pc] 25)).alloc (.cells #[.slice none 0 0, .slice none 0 0] 25)) := ((Below.refl _ _).alloc (Nat.le_refl _) _).alloc (by simp) _
  have HGX := Lib.hid (hG.below hbel0)
  have HZX := Lib.hid (hz.below hbel0)
  obtain ⟨W, hW⟩ : ∃ W, W = (w.alloc (.cells #[.slice ia il ic, .slice pa pl pc] 25)).alloc (.cells #[.slice none 0 0, .slice none 0 0] 25) := ⟨_, rfl⟩
  have hWs : W.heap.size = w.heap.size + 2 := by rw [hW]; simp
  have HBX0 : Hid (W.cell? ⟨w.heap.size, 0, none⟩ = some (.slice ia il ic)) := Lib.hid (by rw [hW]; simp [cell_push0])
  have HBX1 : Hid (W.cell? ⟨w.heap.size, 1, none⟩ = some (.slice pa pl pc)) := Lib.hid (by rw [hW]; simp [cell_push0])
  have HR0 : Hid (W.cell? ⟨w.heap.size + 1, 0, none⟩ = some (.slice none 0 0)) := Lib.hid (by rw [hW]; simp [cell_push0])
  have HR1 : Hid (W.cell? ⟨w.heap.size + 1, 1, none⟩ = some (.slice none 0 0)) := Lib.hid (by rw [hW]; simp [cell_push0])
  have HF0 : Hid (W.frozen? ⟨w.heap.size + 1, 0, none⟩ = false) := Lib.hid (by rw [hW]; simp [free_push0])
  have HF1 : Hid (W.frozen? ⟨w.heap.size + 1, 1, none⟩ = false) := Lib.hid (by rw [hW]; simp [free_push0])
  rw [← hW] at hbel0
  have HB := Lib.hid hbel0
  have HFit := Lib.hid (fit_ps hG)
  have HIL := Lib.hid hG.il
  have HPL := Lib.hid hG.pl
  have HZF := Lib.hid hz.fits
  have HW := Lib.hid hW
  clear hbel0 hW hG hz
  cases hv : validB G with
  | false =>
    have HO : Hid (identO G zs = .inl 1) := Lib.hid (by unfold identO; rw [hv]; rfl)
    go_enter Try.func10, Try.ntmps10
    go_wp2_with (go_at_call 12; refine (refValid_any _ _ _ _ _ _ G _ HGX.out).mono ?_; rintro e w1 ⟨rfl, hb1⟩; rw [← HW.out] at hb1; have e0 := (hb1.cell (p := ⟨w.heap.size + 1, 0, none⟩) (by simp; omega)).trans HR0.out; have e1 := (hb1.cell (p := ⟨w.heap.size + 1, 1, none⟩) (by simp; omega)).trans HR1.out; have e2 := (hb1.frozen (p := ⟨w.heap.size + 1, 0, none⟩) (by simp; omega)).trans HF0.out; have e3 := (hb1.frozen (p := ⟨w.heap.size + 1, 1, none⟩) (by simp; omega)).trans HF1.out; have HE := Lib.hid (fun u0 u1 => ((HB.out.trans (hb1.mono HB.out.size)).setCell (p := ⟨w.heap.size + 1, 0, none⟩) (by simp) u0).setCell (p := ⟨w.heap.size + 1, 1, none⟩) (by simp) u1); clear hb1)
    refine bodyPost_ret (v := .tuple #[.agg #[.slice none 0 0, .slice none 0 0], .int .i64 1]) (by rw [results_c1 rfl]; go_simp) rfl ?_
    rw [HO.out]
    exact ⟨rfl, HE.out _ _⟩
  | true =>
    have hV := validB_iff.1 hv
    have hpl : pl ≤ 1000 := by have := hV.le; have := HPL.out; omega
    have hil : il ≤ 1000 := by have := hV.le; have := hV.ids; have := HIL.out; omega
    have hrow : ∀ v, v < pl → (rowA G.ps v).length ≤ 1000 := fun v hv => by
      have h1 := HPL.out
      have h2 := (hV.links v (by omega)).len (by omega)
      have := hV.le
      omega
    have HRW := Lib.hid hrow
    have hzs3 : zs.length ≤ 1000000 := by omega
    clear hV hrow
    go_enter Try.func10, Try.ntmps10
    go_wp2_with (first | (go_at_call 12; (with_reducible refine (refValid_any _ _ _ _ _ _ G _ HGX.out).mono ?_); rintro e w1 ⟨rfl, hb1⟩; rw [← HW.out] at hb1; have b0 := (hb1.cell (p := ⟨w.heap.size, 0, none⟩) (by simp; omega)).trans HBX0.out; have b1 := (hb1.cell (p := ⟨w.heap.size, 1, none⟩) (by simp; omega)).trans HBX1.out; have HB1 := Lib.hid hb1; clear hb1) | (go_at_call 23; (with_reducible refine (copy_any ia pa il ic pl pc G _ ((HW.out ▸ HGX.out).below HB1.out) hil hpl HRW.out).mono ?_); rintro e w2 ⟨⟨a1, q1, a2, q2, us, rfl, hus, hA⟩, hb2⟩) | (at_builtin; have hM0 := Made.box (z1 := .slice a1 il q1) (z2 := .slice a2 pl q2) (t := 25) hA hb2; refine wpList_copyI rfl _ (.tmp 13) rfl a c zs zs.length rfl rfl rfl (((HW.out ▸ HZX.out).below HB1.out).below hM0.fr) hzs3 ?_; intro a4 q4 w4 hown4 hb4; have hM4 := hM0.newIds hb4 hown4; have hs3 := hb2.size; have z0 := hM4.c0; have z1 := hM4.c1; have z2 := hM4.f0; have HM4 := Lib.hid hM4; have HUS := Lib.hid hus; clear hM4 hown4 hb4 hM0 hA hb2 hus b0 b1))
    have hs1 := HB1.out.size
    have R0 := Lib.hid ((HB1.out.cell (p := ⟨w.heap.size + 1, 0, none⟩) (by simp; omega)).trans HR0.out)
    have R1 := Lib.hid ((HB1.out.cell (p := ⟨w.heap.size + 1, 1, none⟩) (by simp; omega)).trans HR1.out)
    have F0 := Lib.hid ((HB1.out.frozen (p := ⟨w.heap.size + 1, 0, none⟩) (by simp; omega)).trans HF0.out)
    have F1 := Lib.hid ((HB1.out.frozen (p := ⟨w.heap.size + 1, 1, none⟩) (by simp; omega)).trans HF1.out)
    have hM5 := HM4.out.put0 (.slice a4 zs.length q4)
    obtain ⟨w5, hw5⟩ : ∃ x, x = w4.setCell ⟨w2.heap.size, 0, none⟩ (.slice a4 zs.length q4) := ⟨_, rfl⟩
    rw [← hw5] at hM5 ⊢
    clear hw5 z0 z1 z2 HM4
    obtain ⟨gb, hgb⟩ : ∃ gb, gb = w2.heap.size := ⟨_, rfl⟩
    rw [← hgb] at hM5 ⊢
    clear hgb
    have HG5 : Hid (GraphAt w5 a4 zs.length a2 pl ⟨zs, G.ps⟩) := Lib.hid (hM5.graphIs (G := ⟨zs, G.ps⟩) rfl HPL.out HUS.out ⟨HZF.out, HFit.out⟩)
    have HM5 := Lib.hid hM5
    have HBW : Hid (Below w.heap.size w w1) := Lib.hid (HB.out.trans (HB1.out.mono HB.out.size))
    clear hM5 hs3
    cases hv2 : validB ⟨zs, G.ps⟩ with
    | false =>
      have HO : Hid (identO G zs = .inl 2) := Lib.hid (by unfold identO; rw [if_pos hv, hv2]; rfl)
      go_wp2_with (go_at_call 12; refine (refValid_any _ _ _ _ _ _ ⟨zs, G.ps⟩ _ HG5.out).mono ?_; rintro e w6 ⟨rfl, hb6⟩; have hM6 := HM5.out.below hb6; have g0 := hM6.c0; have g1 := hM6.c1; have e0 := (hM6.fr.cell (p := ⟨w.heap.size + 1, 0, none⟩) (by simp; omega)).trans R0.out; have e1 := (hM6.fr.cell (p := ⟨w.heap.size + 1, 1, none⟩) (by simp; omega)).trans R1.out; have e2 := (hM6.fr.frozen (p := ⟨w.heap.size + 1, 0, none⟩) (by simp; omega)).trans F0.out; have e3 := (hM6.fr.frozen (p := ⟨w.heap.size + 1, 1, none⟩) (by simp; omega)).trans F1.out; have HM6 := Lib.hid hM6; clear hM6 hb6)
      refine bodyPost_ret (v := .tuple #[.agg #[.slice none 0 0, .slice none 0 0], .int .i64 2]) (by rw [results_c1 rfl]; go_simp) rfl ?_
      rw [HO.out]
      exact ⟨rfl, HM6.out.back HBW.out (by omega) _ _⟩
    | true =>
      have HO : Hid (identO G zs = .inr ⟨zs, G.ps⟩) := Lib.hid (by unfold identO; rw [if_pos hv, if_pos hv2])
      go_wp2_with (go_at_call 12; refine (refValid_any _ _ _ _ _ _ ⟨zs, G.ps⟩ _ HG5.out).mono ?_; rintro e w6 ⟨rfl, hb6⟩; have hM6 := HM5.out.below hb6; have g0 := hM6.c0; have g1 := hM6.c1; have e0 := (hM6.fr.cell (p := ⟨w.heap.size + 1, 0, none⟩) (by simp; omega)).trans R0.out; have e1 := (hM6.fr.cell (p := ⟨w.heap.size + 1, 1, none⟩) (by simp; omega)).trans R1.out; have e2 := (hM6.fr.frozen (p := ⟨w.heap.size + 1, 0, none⟩) (by simp; omega)).trans F0.out; have e3 := (hM6.fr.frozen (p := ⟨w.heap.size + 1, 1, none⟩) (by simp; omega)).trans F1.out; have HM6 := Lib.hid hM6; clear hM6 hb6)
      refine bodyPost_ret (v := .tuple #[.agg #[.slice a4 zs.length q4, .slice a2 pl q2], .int .i64 0]) (by rw [results_c1 rfl]; go_simp) rfl ?_
      rw [HO.out]
      exact ⟨⟨a4, zs.length, q4, a2, pl, q2, rfl, HM6.out.graphIsFar (G := ⟨zs, G.ps⟩) rfl HPL.out HUS.out ⟨HZF.out, HFit.out⟩ ((grown_set w6 (w.heap.size + 1) 0 _).trans (grown_set _ (w.heap.size + 1) 1 _)) (by omega)⟩, HM6.out.back HBW.out (by omega) _ _⟩
end Go.Proofs.Ytfbbkiibhdgojaa
