/- What Ring of package family answers. -/
import Derived.Test.YtfbbkiibhdgojaaFam6
import Derived.Test.YtfbbkiibhdgojaaRefF5
namespace Go.Proofs.Ytfbbkiibhdgojaa
open Go.RowKit

theorem fst_set {us : List (Value × List (Int × Int))} {i : Nat} {u : Value} {xs ys : List (Int × Int)} (h : us[i]? = some (u, xs)) : (us.set i (u, ys)).map Prod.fst = us.map Prod.fst := by
  rw [List.map_set]
  refine List.ext_getElem? fun j => ?_
  by_cases e : j = i
  · subst e
    have hl := (List.getElem?_eq_some_iff.1 h).1
    rw [List.getElem?_set_self (by simpa using hl), List.getElem?_map, h]
    rfl
  · rw [List.getElem?_set_ne (Ne.symm e)]
/-- the rows of a ring, as related lays them, and what becomes of them -/
theorem ring_rows : ∀ n, n < 25 → 3 ≤ n → selR (relC (ringN n)) 0 n = [((1 : Int), 1), ((n : Int) - 1, 1)] ∧ selR (relC (ringN n)) (n - 1) n = [((0 : Int), 1), ((n : Int) - 2, 1)] ∧
    (((List.range n).map fun k => selR (relC (ringN n)) k n).set 0 [((n : Int) - 1, 1), ((1 : Int), 1)]).set (n - 1) [((n : Int) - 2, 1), ((0 : Int), 1)] = (List.range n).map (ringR n) := by decide
set_option maxHeartbeats 2000000 in
theorem ringPE_any (n : Int) (w : World) (h : n < 3) :
    Calls Try.prog 17 #[.int .i64 n] w fun e w' => FamOwn w.heap.size (.inl 2) e w' ∧ Below w.heap.size w w' := by
  go_enter Try.func17, Try.ntmps17
  go_wp2
  refine bodyPost_ret (v := .tuple #[.agg #[.slice none 0 0, .slice none 0 0], .int .i64 2]) (by rw [results_c1 (fn := Try.f17) rfl]; go_simp) rfl ?_
  exact ⟨noFam 2 _, ((Below.refl _ _).alloc (Nat.le_refl _) _).alloc (by simp) _⟩
set_option maxHeartbeats 2000000 in
theorem ringPF_any (n : Int) (w : World) (h : 24 < n) :
    Calls Try.prog 17 #[.int .i64 n] w fun e w' => FamOwn w.heap.size (.inl 2) e w' ∧ Below w.heap.size w w' := by
  have hrel : ∀ w' : World, _ := fun w' => relatedE_any n (.func (Fn.func 30) #[] #[.pointer (some ⟨w.heap.size, 0, none⟩)]) (ringN n.toNat) w' (inB_mkF (by omega))
  have ho : relO (ringN n.toNat) n = .inl 2 := by unfold relO; rw [inB_mkF (by omega)]; rfl
  simp only [ho] at hrel
  clear ho
  have h3 : ¬ n < 3 := by omega
  go_enter Try.func17, Try.ntmps17
  go_wp2_with (go_at_call 29; go_must (refine (hrel _).mono ?_; rintro e w1 ⟨⟨a1, l1, c1, a2, l2, c2, k, rfl, hO⟩, hb3⟩); unfold famRet; obtain ⟨e1, e2, rfl⟩ := hO; injection e1 with e11 e12 e13; injection e2 with e21 e22 e23; subst e11 e12 e13 e21 e22 e23; have hbx : Below (w.heap.size + 2) ((w.alloc (.cells #[.int .i64 n] 3)).alloc (.cells #[.slice none 0 0, .slice none 0 0] 25)) w1 := hb3.mono (by simp); have hsz : w.heap.size + 2 ≤ w1.heap.size := (by simpa using hbx.size); obtain ⟨w2, hw2⟩ : ∃ x, x = w1.alloc (.cells #[.slice none 0 0, .slice none 0 0] 25) := ⟨_, rfl⟩; have hbx2 : Below (w.heap.size + 2) ((w.alloc (.cells #[.int .i64 n] 3)).alloc (.cells #[.slice none 0 0, .slice none 0 0] 25)) w2 := (by rw [hw2]; exact hbx.alloc (by omega) _); have r0 := boxedB hbx2 0; have r1 := boxedB hbx2 1; have q0 := free_boxB hbx2 0; have q1 := free_boxB hbx2 1; have HW2 := Lib.hid hw2; rw [hw2] at r0 r1 q0 q1; clear hb3 hw2)
  refine bodyPost_ret (v := .tuple #[.agg #[.slice none 0 0, .slice none 0 0], .int .i64 2]) (by rw [results_c1 (fn := Try.f17) rfl]; go_simp) rfl ?_
  rw [← HW2.out]
  exact ⟨noFam 2 _, ((belBox2 hbx2).setCell (Nat.le_succ _) _).setCell (Nat.le_succ _) _⟩
theorem pair_0 (x y : Int) (w : World) : (Instr.index 53 (.agg #[.int .i64 x, .int .i64 y]) (.int .i64 0)).run Try.prog w = .ok (.int .i64 x) w := by kernel_rfl
theorem pair_1 (x y : Int) (w : World) : (Instr.index 53 (.agg #[.int .i64 x, .int .i64 y]) (.int .i64 1)).run Try.prog w = .ok (.int .i64 y) w := by kernel_rfl
theorem own_open {B n : Nat} {w : World} {R : Nat → List (Int × Int)} {v1 v2 : Value} {us : List (Value × List (Int × Int))} (hA : Apart B w (idsR v1 (famG n R).ids :: hdrR v2 (us.map Prod.fst) :: us.map lnkR)) (hp : (famG n R).ps = us.map Prod.snd) (hn : 0 < n) :
    ∃ ib q1 hb q2, v1 = .slice (some ⟨ib, 0, none⟩) n q1 ∧ v2 = .slice (some ⟨hb, 0, none⟩) n q2 ∧ RowsR n R us := by
  have hl : us.length = n := by have := congrArg List.length hp; simpa [famG] using this.symm
  have o1 : w.ownsRow B 3 1 v1 (upTo n).length (intsV (upTo n)) := hA.own (idsR v1 (upTo n)) (by simp [famG])
  have o2 : w.ownsRow B 38 1 v2 (us.map Prod.fst).length (us.map Prod.fst) := hA.own (hdrR v2 (us.map Prod.fst)) (by simp)
  rw [upTo_len] at o1
  rw [List.length_map, hl] at o2
  obtain ⟨x1, q1, rfl, _, p1⟩ := own_slice o1
  obtain ⟨x2, q2, rfl, _, p2⟩ := own_slice o2
  obtain ⟨ib, rfl, _⟩ := p1 hn
  obtain ⟨hb, rfl, _⟩ := p2 hn
  refine ⟨ib, q1, hb, q2, rfl, rfl, hl, fun v hv => ?_⟩
  rw [← hp]
  simp [famG, hv]
theorem Made.rowP {W w : World} {gb n v : Nat} {x1 x2 v1 v2 : Value} {zs : List Int} {us : List (Value × List (Int × Int))} {R : Nat → List (Int × Int)} (h : Made W gb w x1 x2 v1 zs v2 (us.map Prod.fst) us) (hR : RowsR n R us) (hv : v < n) {xs : List (Int × Int)} (hx : R v = xs) (h0 : 0 < xs.length) :
    ∃ g c, us[v]? = some (.slice (some ⟨g, 0, none⟩) xs.length c, xs) ∧ (us.map Prod.fst)[v]? = some (.slice (some ⟨g, 0, none⟩) xs.length c) := by
  obtain ⟨a, c, h1, h2⟩ := h.rowAt hR hv hx
  obtain ⟨a', c', e, _, p⟩ := own_slice (show w.ownsRow W.heap.size 41 2 (.slice a xs.length c) xs.length (linkVs xs) from h.lnk (List.mem_of_getElem? h1))
  injection e with e1 e2 e3
  obtain ⟨g, rfl, _⟩ := p h0
  subst e1
  exact ⟨g, c, h1, h2⟩
set_option maxHeartbeats 4000000 in
theorem ringP_ok (n : Nat) (w : World) (h1 : 3 ≤ n) (h2 : n ≤ 24) :
    Calls Try.prog 17 #[.int .i64 n] w fun e w' => FamOwn w.heap.size (.inr (famG n (ringR n))) e w' ∧ Below w.heap.size w w' := by
  obtain ⟨W, hW⟩ : ∃ W, W = (w.alloc (.cells #[.int .i64 n] 3)).alloc (.cells #[.slice none 0 0, .slice none 0 0] 25) := ⟨_, rfl⟩
  have hWs : W.heap.size = w.heap.size + 2 := by rw [hW]; simp
  have x0 : W.cell? ⟨w.heap.size, 0, none⟩ = some (.int .i64 n) := by rw [hW]; simp [cell_push0]
  have hrel := relatedE_ok n 30 #[.pointer (some ⟨w.heap.size, 0, none⟩)] (ringN n) W (by omega) h2 ⟨enters_of Try.func30 (by kernel_rfl) rfl, fun w'' a b hbw hab hb => by
    simpa using ringC_any n a b h2 hab hb w.heap.size w'' ((hbw.cell (p := ⟨w.heap.size, 0, none⟩) (by simp; omega)).trans x0)⟩
  have h3 : ¬ (n : Int) < 3 := by omega
  have hnil : n - 1 < n := by omega
  have hni : (n : Int) - 1 = ((n - 1 : Nat) : Int) := by omega
  obtain ⟨R0, R1, R2⟩ := ring_rows n (by omega) h1
  have HW := Lib.hid hW
  have Hrel := Lib.hid hrel
  have HR0 := Lib.hid R0
  have HR1 := Lib.hid R1
  have HR2 := Lib.hid R2
  have HNI := Lib.hid hni
  clear hW hrel R0 R1 R2 hni
  go_enter Try.func17, Try.ntmps17
  go_wp2_with (go_at_call 29; rw [← HW.out]; go_must (refine Hrel.out.mono ?_; rintro e w1 ⟨⟨a1, l1, c1, a2, l2, c2, k, rfl, hO⟩, hb3⟩); unfold famRet; obtain ⟨rfl, us0, hA, hp, hF⟩ := hO; go_must (obtain ⟨ib, q1, hb, q2, e1, e2, hR⟩ := own_open hA hp (by omega)); go_must (injection e1 with e11 e12 e13; injection e2 with e21 e22 e23; have e12 := e12.symm; have e22 := e22.symm; subst e11 e12 e13 e21 e22 e23); obtain ⟨wS, hwS⟩ : ∃ x, x = w1.alloc (.cells #[.slice (some ⟨ib, 0, none⟩) n c1, .slice (some ⟨hb, 0, none⟩) n c2] 25) := ⟨_, rfl⟩; have hM := Made.box (W := W) (z1 := .slice (some ⟨ib, 0, none⟩) n c1) (z2 := .slice (some ⟨hb, 0, none⟩) n c2) (t := 25) hA hb3; go_must (rw [← hwS] at hM); go_must (have x1 := (hM.fr.cell (p := ⟨w.heap.size, 0, none⟩) (by simp; omega)).trans x0); have HwS := Lib.hid hwS; have HM := Lib.hid hM; have HR := Lib.hid hR; have HF := Lib.hid hF; rw [hwS] at x1; clear hA hp hF hb3 hM hR hwS)
  rw [← HwS.out]
  clear x1
  obtain ⟨gb, hgb⟩ : ∃ gb, gb = w1.heap.size := ⟨_, rfl⟩
  rw [← hgb] at HM ⊢
  clear hgb HwS
  rw [show relG (ringN n) n = famG n (fun k => selR (relC (ringN n)) k n) from rfl] at *
  obtain ⟨ga, ca, hua, hha⟩ := HM.out.rowP HR.out (v := 0) (by omega) HR0.out (by simp)
  obtain ⟨gz, cz, huz, hhz⟩ := HM.out.rowP HR.out (v := n - 1) (by omega) HR1.out (by simp)
  simp only [List.length_cons, List.length_nil, Nat.zero_add, Nat.reduceAdd] at hua hha huz hhz
  have hz0 : n - 1 ≠ 0 := by omega
  have e1 := fst_set (ys := [((n : Int) - 1, 1), ((1 : Int), 1)]) hua
  have huz' : (us0.set 0 (.slice (some ⟨ga, 0, none⟩) 2 ca, [((n : Int) - 1, 1), ((1 : Int), 1)]))[n - 1]? = some (.slice (some ⟨gz, 0, none⟩) 2 cz, [((0 : Int), 1), ((n : Int) - 2, 1)]) := by
    rw [List.getElem?_set_ne (Ne.symm hz0)]; exact huz
  have e2 := fst_set (ys := [((n : Int) - 2, 1), ((0 : Int), 1)]) huz'
  have hsnd : ((us0.set 0 (.slice (some ⟨ga, 0, none⟩) 2 ca, [((n : Int) - 1, 1), ((1 : Int), 1)])).set (n - 1) (.slice (some ⟨gz, 0, none⟩) 2 cz, [((n : Int) - 2, 1), ((0 : Int), 1)])).map Prod.snd = (famG n (ringR n)).ps := by
    have hs0 : us0.map Prod.snd = (List.range n).map fun k => selR (relC (ringN n)) k n := by
      refine List.ext_getElem? fun v => ?_
      by_cases hv : v < n
      · rw [HR.out.2 v hv]; simp [hv]
      · rw [List.getElem?_eq_none (by simp [HR.out.1]; omega), List.getElem?_eq_none (by simp; omega)]
    rw [List.map_set, List.map_set, hs0]
    exact HR2.out
  have c1a := HM.out.c1
  have cha := HM.out.hdrCell hha
  have hn1 : (n : Int) - 1 = ((n - 1 : Nat) : Int) := HNI.out
  have HE1 := Lib.hid e1
  have HE2 := Lib.hid e2
  have Hua := Lib.hid hua
  have Huz := Lib.hid huz'
  have Hhz := Lib.hid hhz
  have HS := Lib.hid hsnd
  clear e1 e2 hua huz huz' hha hhz hsnd
  have hp0 := pair_0
  have hp1 := pair_1
  refine wp_loop_rounds 3 ?_
  rw [rounds_succ]
  go_wp2_with (go_at_call 31; go_must (refine (reverse2_any W _ gb 0 ga ca _ _ _ _ _ _ us0 ((1 : Int), 1) ((n : Int) - 1, 1) HM.out Hua.out).mono ?_; rintro e w3 ⟨rfl, hM3⟩))
  rw [← HE1.out] at hM3
  have c1b := hM3.c1
  have chb := hM3.hdrCell (i := n - 1) (by rw [HE1.out]; exact Hhz.out)
  have HM3 := Lib.hid hM3
  clear hM3
  rw [rounds_succ]
  go_wp2_with (go_at_call 31; go_must (refine (reverse2_any W _ gb (n - 1) gz cz _ _ _ _ _ _ _ ((0 : Int), 1) ((n : Int) - 2, 1) HM3.out Huz.out).mono ?_; rintro e w4 ⟨rfl, hM4⟩))
  rw [← HE2.out] at hM4
  have d0 := hM4.c0
  have d1 := hM4.c1
  have far : ∀ i, w4.cell? ⟨w.heap.size + 1, i, none⟩ = W.cell? ⟨w.heap.size + 1, i, none⟩ := fun i => hM4.fr.cell (p := ⟨w.heap.size + 1, i, none⟩) (by simp; omega)
  have farf : ∀ i, w4.frozen? ⟨w.heap.size + 1, i, none⟩ = W.frozen? ⟨w.heap.size + 1, i, none⟩ := fun i => hM4.fr.frozen (p := ⟨w.heap.size + 1, i, none⟩) (by simp; omega)
  have r0 : w4.cell? ⟨w.heap.size + 1, 0, none⟩ = some (.slice none 0 0) := by rw [far, HW.out]; simp [cell_push0]
  have r1 : w4.cell? ⟨w.heap.size + 1, 1, none⟩ = some (.slice none 0 0) := by rw [far, HW.out]; simp [cell_push0]
  have q4 : w4.frozen? ⟨w.heap.size + 1, 0, none⟩ = false := by rw [farf, HW.out]; simp [free_push0]
  have q5 : w4.frozen? ⟨w.heap.size + 1, 1, none⟩ = false := by rw [farf, HW.out]; simp [free_push0]
  have HM4 := Lib.hid hM4
  clear hM4 far farf
  rw [rounds_succ]
  go_wp2
  refine bodyPost_ret (v := .tuple #[.agg #[.slice (some ⟨ib, 0, none⟩) n c1, .slice (some ⟨hb, 0, none⟩) n c2], .int .i64 0]) (by rw [results_c1 (fn := Try.f17) rfl]; go_simp) rfl ?_
  have hWb : Below w.heap.size w W := by rw [HW.out]; exact ((Below.refl _ _).alloc (Nat.le_refl _) _).alloc (by simp) _
  have hA4 := HM4.out.done (r := w.heap.size + 1) (by omega) (.slice (some ⟨ib, 0, none⟩) n c1) (.slice (some ⟨hb, 0, none⟩) n c2)
  refine ⟨⟨_, _, _, _, _, _, _, rfl, rfl, _, (hA4.mono (by omega)), HS.out.symm, ?_, ?_⟩, HM4.out.back hWb (Nat.le_succ _) _ _⟩
  · exact HF.out.1
  · intro p hp x hx
    obtain ⟨v, hv, rfl⟩ := List.mem_map.1 hp
    exact ringR_fit n h2 v (by simpa using hv) x hx
theorem ringP_any (n : Int) (w : World) :
    Calls Try.prog 17 #[.int .i64 n] w fun e w' => FamOwn w.heap.size (ringO n) e w' ∧ Below w.heap.size w w' := by
  unfold ringO
  by_cases h1 : n < 3
  · rw [inB_mkF (by omega)]
    exact ringPE_any n w h1
  · by_cases h2 : 24 < n
    · rw [inB_mkF (by omega)]
      exact ringPF_any n w h2
    · rw [inB_mk (by omega)]
      obtain ⟨m, rfl⟩ : ∃ m : Nat, n = m := ⟨n.toNat, by omega⟩
      exact ringP_ok m w (by omega) (by omega)
end Go.Proofs.Ytfbbkiibhdgojaa
