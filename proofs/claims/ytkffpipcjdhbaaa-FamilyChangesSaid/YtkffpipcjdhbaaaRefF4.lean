/- What FromParents of the specification of layer 3 answers. -/
import Derived.Test.YtkffpipcjdhbaaaRefF0
namespace Go.Proofs.Ytkffpipcjdhbaaa
open Go.RowKit

def parC (zs : List Int) (k u : Nat) : Bool := (decide (0 < k) && idA zs k == (u : Int)) || (decide (0 < u) && idA zs u == (k : Int))
def parOk (zs : List Int) : Prop := inB zs.length 1 24 = true ∧ idA zs 0 = -1 ∧ ∀ v, 1 ≤ v → v < zs.length → inB (idA zs v) 0 ((v : Int) - 1) = true
theorem beqT {a b : Int} (h : a = b) : (a == b) = true := by simp [h]
theorem beqF {a b : Int} (h : a ≠ b) : (a == b) = false := by simp [h]
noncomputable def parO (zs : List Int) : Int ⊕ Gr := open Classical in if parOk zs then .inr (famG zs.length fun k => selR (parC zs) k zs.length) else .inl 2
theorem parC_t {zs : List Int} {k u : Nat} (h : parC zs k u = true) : (0 < k ∧ idA zs k = u) ∨ (¬ 0 < k ∧ 0 < u ∧ idA zs u = k) ∨ (0 < k ∧ idA zs k ≠ u ∧ 0 < u ∧ idA zs u = k) := by
  unfold parC at h
  simp only [Bool.or_eq_true, Bool.and_eq_true, beq_iff_eq, decide_eq_true_eq] at h
  omega
theorem parC_f {zs : List Int} {k u : Nat} (h : parC zs k u = false) : (¬ 0 < k ∧ ¬ 0 < u) ∨ (0 < k ∧ idA zs k ≠ u ∧ ¬ 0 < u) ∨ (¬ 0 < k ∧ 0 < u ∧ idA zs u ≠ k) ∨ (0 < k ∧ idA zs k ≠ u ∧ 0 < u ∧ idA zs u ≠ k) := by
  have h' : ¬ parC zs k u = true := by rw [h]; simp
  unfold parC at h'
  simp only [Bool.or_eq_true, Bool.and_eq_true, beq_iff_eq, decide_eq_true_eq] at h'
  omega
set_option maxHeartbeats 2000000 in
theorem parE_any (a : Option Addr) (c : Nat) (zs : List Int) (w : World) (hz : IntsAt w a zs) (hn : inB zs.length 1 24 = false ∨ (inB zs.length 1 24 = true ∧ idA zs 0 ≠ -1)) :
    Calls Try.prog 23 #[.slice a zs.length c] w fun e w' => FamOwn w.heap.size (.inl 2) e w' ∧ Below w.heap.size w w' := by
  have hsz := hz.size
  unfold maxLen at hsz
  obtain ⟨n, hnl⟩ : ∃ n, n = zs.length := ⟨_, rfl⟩
  rw [← hnl] at hn hsz ⊢
  rcases hn with hn | ⟨hn, hn2⟩
  · clear hnl hz
    go_enter Try.func23, Try.ntmps23
    go_wp2_with (go_at_call 43; refine (in_any _ _ _ _).mono ?_; rintro e w1 ⟨rfl, rfl⟩)
    refine bodyPost_ret (v := .tuple #[.agg #[.slice none 0 0, .slice none 0 0], .int .i64 2]) (by rw [results_c1 rfl]; go_simp) rfl ?_
    exact ⟨noFam 2 _, (Below.refl _ _).alloc (Nat.le_refl _) _⟩
  · have hr : 1 ≤ n ∧ n ≤ 24 := by simp [inB] at hn; omega
    obtain ⟨b, o, rfl, hb, hc⟩ := hz.row (by omega)
    have hc0 := hc 0 (by omega)
    rw [Nat.add_zero] at hc0
    have hcw := (((Below.refl w.heap.size w).alloc (Nat.le_refl _) (.cells #[.slice none 0 0, .slice none 0 0] 26)).cell (p := ⟨b, o, none⟩) hb).trans hc0
    have hq : (idA zs 0 == -1) = false := by simp [hn2]
    clear hc hnl hc0 hz
    go_enter Try.func23, Try.ntmps23
    go_wp2_with (go_at_call 43; refine (in_any _ _ _ _).mono ?_; rintro e w1 ⟨rfl, rfl⟩)
    refine bodyPost_ret (v := .tuple #[.agg #[.slice none 0 0, .slice none 0 0], .int .i64 2]) (by rw [results_c1 rfl]; go_simp) rfl ?_
    exact ⟨noFam 2 _, (Below.refl _ _).alloc (Nat.le_refl _) _⟩
set_option linter.unusedSimpArgs false in
set_option maxHeartbeats 4000000 in
set_option maxRecDepth 100000 in
theorem parE_ok (b o c : Nat) (zs : List Int) (n : Nat) (w : World) (hnl : zs.length = n) (h1 : 1 ≤ n) (h2 : n ≤ 24) (hz : IntsAt w (some ⟨b, o, none⟩) zs) (hbw : b < w.heap.size) (h0 : idA zs 0 = -1) :
    Calls Try.prog 23 #[.slice (some ⟨b, o, none⟩) n c] w fun e w' => FamOwn w.heap.size (parO zs) e w' ∧ Below w.heap.size w w' := by
  have hn : inB n 1 24 = true := by unfold inB; simp; omega
  have Hc : Hid (∀ i, i < n → w.cell? ⟨b, o + i, none⟩ = some (.int .i64 (idA zs i))) := Lib.hid (by
    obtain ⟨b', o', e, _, hc⟩ := hz.row (by omega)
    injection e with e
    injection e with e1 e2
    subst e1 e2
    rw [hnl] at hc
    exact hc)
  have Hf : Hid (∀ i, i < n → I64 (idA zs i)) := Lib.hid (fun i hi => hz.fit (by omega))
  have hcw := (((Below.refl w.heap.size w).alloc (Nat.le_refl _) (.cells #[.slice none 0 0, .slice none 0 0] 26)).cell (p := ⟨b, o, none⟩) hbw).trans (Hc.out 0 (by omega))
  rw [h0] at hcw
  have Hnl := Lib.hid hnl
  have H0 := Lib.hid h0
  clear hz hnl h0
  go_enter Try.func23, Try.ntmps23
  go_wp2_with (go_at_call 43; refine (in_any _ _ _ _).mono ?_; rintro e w1 ⟨rfl, rfl⟩)
  clear hcw
  have HB0 : Hid (Below (w.heap.size + 1) (w.alloc (.cells #[.slice none 0 0, .slice none 0 0] 26)) (w.alloc (.cells #[.slice none 0 0, .slice none 0 0] 26))) := Lib.hid (Below.refl _ _)
  go_loopw [5] (fun t wr => ∃ k : Nat, t = .int .i64 k ∧ 1 ≤ k ∧ k ≤ n ∧ (∀ v, 1 ≤ v → v < k → inB (idA zs v) 0 ((v : Int) - 1) = true) ∧ Below (w.heap.size + 1) (w.alloc (.cells #[.slice none 0 0, .slice none 0 0] 26)) wr) (fun t _ => n - (intOf t).toNat)
  case atStart => exact ⟨1, rfl, Nat.le_refl _, h1, fun v h1 h2 => absurd h2 (by omega), HB0.out⟩
  case round =>
    clear HB0
    obtain ⟨k, rfl, hk1, hk, hok, hbel⟩ := hrel
    have Hok := Lib.hid hok
    clear hok
    by_cases hlt : k < n
    · have hcell := ((belBox hbel).cell (p := ⟨b, o + k, none⟩) hbw).trans (Hc.out k hlt)
      have hkn : (k : Int) ≤ 24 := by omega
      cases hg : inB (idA zs k) 0 ((k : Int) - 1) with
      | false =>
        have r0 : wr.cell? ⟨w.heap.size, 0, none⟩ = some (.slice none 0 0) := boxed hbel 0
        have r1 : wr.cell? ⟨w.heap.size, 1, none⟩ = some (.slice none 0 0) := boxed hbel 1
        have q4 : wr.frozen? ⟨w.heap.size, 0, none⟩ = false := by rw [hbel.frozen (p := ⟨w.heap.size, 0, none⟩) (by simp)]; simp [free_push0]
        have q5 : wr.frozen? ⟨w.heap.size, 1, none⟩ = false := by rw [hbel.frozen (p := ⟨w.heap.size, 1, none⟩) (by simp)]; simp [free_push0]
        have HE : Hid (∀ u0 u1, Below w.heap.size w ((wr.setCell ⟨w.heap.size, 0, none⟩ u0).setCell ⟨w.heap.size, 1, none⟩ u1)) := Lib.hid (fun u0 u1 => ((belBox hbel).setCell (by simp) _).setCell (by simp) _)
        clear hbel
        go_wp2_with (go_at_call 43; refine (in_any _ _ _ _).mono ?_; rintro e w1 ⟨rfl, rfl⟩)
        refine bodyPost_ret (v := .tuple #[.agg #[.slice none 0 0, .slice none 0 0], .int .i64 2]) (by rw [results_c1 rfl]; go_simp) rfl ?_
        refine ⟨?_, ?_⟩
        · unfold parO
          rw [if_neg (fun h => by
            have := h.2.2 k hk1 (by rw [Hnl.out]; exact hlt)
            rw [hg] at this
            cases this)]
          exact noFam 2 _
        · first | exact HE.out _ _ | exact HE.out (.slice none 0 0) (.slice none 0 0)
      | true =>
        go_wp2_with (go_at_call 43; refine (in_any _ _ _ _).mono ?_; rintro e w1 ⟨rfl, rfl⟩)
        go_roundw
        case rel =>
          refine ⟨k + 1, by go_num, by omega, hlt, fun v h1 h2 => ?_, hbel⟩
          by_cases e : v = k
          · rw [e]; exact hg
          · exact Hok.out v h1 (by omega)
        case measure => simp [intOf]; omega
    · obtain rfl : n = k := by omega
      go_wp2_with (go_at_call 44; refine (plain_any n (by omega) _).mono ?_; rintro e w1 ⟨⟨a1, q1, a2, q2, rfl, hA⟩, hb1⟩)
      obtain ⟨W, hW⟩ : ∃ W, W = w.alloc (.cells #[.slice none 0 0, .slice none 0 0] 26) := ⟨_, rfl⟩
      have hWs : W.heap.size = w.heap.size + 1 := by rw [hW]; simp
      have hbW : Below W.heap.size W wr := by rw [hWs, hW]; exact hbel
      replace hA := hA.mono hbW.size
      replace hb1 := hbW.trans (hb1.mono hbW.size)
      have hs1 := hb1.size
      rw [hWs] at hs1
      obtain ⟨a0, _, e2, _, p2⟩ := own_slice (hA.own (hdrR (.slice a2 n q2) ((bare n).map Prod.fst)) (by simp))
      obtain ⟨hb, rfl, _⟩ : ∃ g, a2 = some ⟨g, 0, none⟩ ∧ g < w1.heap.size := by
        injection e2 with e2
        rw [e2]
        exact p2 (by simp [hdrR, bare_len]; omega)
      clear e2 p2
      have hM0 := Made.box (z1 := .slice a1 n q1) (z2 := .slice (some ⟨hb, 0, none⟩) n q2) (t := 26) hA hb1
      clear hA hb1
      have HMs := Lib.hid hM0
      have HW := Lib.hid hW
      have HcW : Hid (∀ i, i < n → W.cell? ⟨b, o + i, none⟩ = some (.int .i64 (idA zs i))) := Lib.hid (fun i hi => by rw [hW]; exact (((Below.refl w.heap.size w).alloc (Nat.le_refl _) _).cell (p := ⟨b, o + i, none⟩) hbw).trans (Hc.out i hi))
      clear hM0 hW hbel hbW hlt hk1 hk
      obtain ⟨gb, hgb⟩ : ∃ gb, gb = w1.heap.size := ⟨_, rfl⟩
      rw [← hgb] at HMs hs1
      rw [← hgb]
      clear hgb
      go_loopw [7] (fun t wr => ∃ (k : Nat) (us : List (Value × List (Int × Int))), t = .int .i64 k ∧ k ≤ n ∧ RowsR n (upR (fun k => selR (parC zs) k n) k) us ∧ Made W gb wr (.slice a1 n q1) (.slice (some ⟨hb, 0, none⟩) n q2) (.slice a1 n q1) (upTo n) (.slice (some ⟨hb, 0, none⟩) n q2) (us.map Prod.fst) us) (fun t _ => n - (intOf t).toNat)
      case atStart => exact ⟨0, bare n, rfl, Nat.zero_le _, RowsR.bare n _, HMs.out⟩
      case round =>
        obtain ⟨k, us0, rfl, hk, hR, hM⟩ := hrel
        obtain ⟨wr0, hwr0⟩ : ∃ x, x = wr := ⟨_, rfl⟩
        subst hwr0
        have c0 := hM.c0
        have c1 := hM.c1
        have hsz := hM.fr.size
        by_cases hlt : k < n
        · have HRa := Lib.hid hR.begin
          have HMa := Lib.hid hM
          clear hM hR c0
          go_wp2
          obtain ⟨wo, hwo⟩ : ∃ wo : World, wo = wr0 := ⟨_, rfl⟩
          subst hwo
          clear c1 hsz
          go_loopw [8] (fun t wr => ∃ (u : Nat) (us : List (Value × List (Int × Int))), t = .int .i64 u ∧ u ≤ n ∧ RowsR n (upRx (fun k => selR (parC zs) k n) k (selR (parC zs) k u)) us ∧ Made W gb wr (.slice a1 n q1) (.slice (some ⟨hb, 0, none⟩) n q2) (.slice a1 n q1) (upTo n) (.slice (some ⟨hb, 0, none⟩) n q2) (us.map Prod.fst) us) (fun t _ => n - (intOf t).toNat)
          case atStart => exact ⟨0, us0, rfl, Nat.zero_le _, HRa.out, HMa.out⟩
          case round =>
            clear HRa HMa
            clear us0
            obtain ⟨u, us0, rfl, hu, hR, hM⟩ := hrel
            obtain ⟨wr5, hwr5⟩ : ∃ x, x = wr := ⟨_, rfl⟩
            subst hwr5
            obtain ⟨us5, hus5⟩ : ∃ x, x = us0 := ⟨_, rfl⟩
            subst hus5
            have hsl := selR_len (parC zs) k u
            have HM5 := Lib.hid hM
            have HR5 := Lib.hid hR
            clear hM hR
            by_cases hul : u < n
            · have pk : wr5.cell? ⟨b, o + k, none⟩ = some (.int .i64 (idA zs k)) := (HM5.out.fr.cell (p := ⟨b, o + k, none⟩) (by simp; omega)).trans (HcW.out k hlt)
              have pu : wr5.cell? ⟨b, o + u, none⟩ = some (.int .i64 (idA zs u)) := (HM5.out.fr.cell (p := ⟨b, o + u, none⟩) (by simp; omega)).trans (HcW.out u hul)
              cases hc : parC zs k u with
              | false =>
                have hcs := parC_f hc
                rcases hcs with hcs | hcs | hcs | hcs
                all_goals
                  first | (have eq0 : idA zs k = (u : Int) := by omega) | (have eq0 : ((u : Int) == idA zs k) = false := beqF (by omega)) | skip
                  first | (have p0 : 0 < k := by omega) | (have p0 : ¬ 0 < k := by omega) | skip
                  first | (have eq1 : idA zs u = (k : Int) := by omega) | (have eq1 : ((k : Int) == idA zs u) = false := beqF (by omega)) | skip
                  first | (have p1 : 0 < u := by omega) | (have p1 : ¬ 0 < u := by omega) | skip
                  clear hcs
                  go_wp2
                  go_roundw
                  case rel => exact ⟨u + 1, us5, by go_num, hul, by rw [selR_skip hc]; exact HR5.out, HM5.out⟩
                  case measure => simp [intOf]; omega
              | true =>
                have hcs := parC_t hc
                obtain ⟨ua5, uc5, hu5, hh5⟩ := HM5.out.rowX HR5.out hlt
                try simp only [List.nil_append, List.length_cons, List.length_nil, Nat.zero_add] at hu5 hh5
                have c1_5 := HM5.out.c1
                have ck5 := HM5.out.hdrCell hh5
                have HU5 := Lib.hid hu5
                have HH5 := Lib.hid hh5
                clear hu5 hh5
                rcases hcs with hcs | hcs | hcs
                all_goals
                  first | (have eq0 : idA zs k = (u : Int) := by omega) | (have eq0 : ((u : Int) == idA zs k) = false := beqF (by omega)) | skip
                  first | (have p0 : 0 < k := by omega) | (have p0 : ¬ 0 < k := by omega) | skip
                  first | (have eq1 : idA zs u = (k : Int) := by omega) | (have eq1 : ((k : Int) == idA zs u) = false := beqF (by omega)) | skip
                  first | (have p1 : 0 < u := by omega) | (have p1 : ¬ 0 < u := by omega) | skip
                  clear hcs
                  go_wp2
                  refine keep_start (fun w' => w'.cell? ⟨gb, 1, none⟩ = some (.slice (some ⟨hb, 0, none⟩) n q2) ∧ w'.cell? ⟨hb, k, none⟩ = some (.slice ua5 ((selR (parC zs) k u).length) uc5)) [13] (by kernel_rfl) ?_
                  (refine keep_pure 0 (v := ?_) rfl (by kernel_rfl) (by kernel_rfl) (by kernel_rfl) (by kernel_rfl) (fun _ _ _ h => h) (Or.inl ⟨by rfl, ?_⟩) (.inr (by exact ⟨HM5.out.c1, HM5.out.hdrCell HH5.out⟩)) ?_; rotate_left 1; focus (intro _; go_simp; (try go_ints); try (with_reducible rfl)); (try simp only [Act.put, List.setIfInBounds_toArray, List.set_cons_zero, List.set_cons_succ]))
                  (refine keep_pure 2 (v := ?_) rfl (by kernel_rfl) (by kernel_rfl) (by kernel_rfl) (by kernel_rfl) (fun _ _ _ h => h) (Or.inl ⟨by rfl, ?_⟩) (.inr (by exact ⟨HM5.out.c1, HM5.out.hdrCell HH5.out⟩)) ?_; rotate_left 1; focus (intro _; go_simp; (try go_ints); try (with_reducible rfl)); (try simp only [Act.put, List.setIfInBounds_toArray, List.set_cons_zero, List.set_cons_succ]))
                  (refine keep_pure 3 (v := ?_) rfl (by kernel_rfl) (by kernel_rfl) (by kernel_rfl) (by kernel_rfl) (fun _ _ _ h => h) (Or.inl ⟨by rfl, ?_⟩) (.inr (by exact ⟨HM5.out.c1, HM5.out.hdrCell HH5.out⟩)) ?_; rotate_left 1; focus (intro _; go_simp; (try go_ints); try (with_reducible rfl)); (try simp only [Act.put, List.setIfInBounds_toArray, List.set_cons_zero, List.set_cons_succ]))
                  (refine keep_pure 5 (v := ?_) rfl (by kernel_rfl) (by kernel_rfl) (by kernel_rfl) (by kernel_rfl) (fun _ _ _ h => h) (Or.inl ⟨by rfl, ?_⟩) (.inr (by exact ⟨HM5.out.c1, HM5.out.hdrCell HH5.out⟩)) ?_; rotate_left 1; focus (intro _; go_simp; (try go_ints); try (with_reducible rfl)); (try simp only [Act.put, List.setIfInBounds_toArray, List.set_cons_zero, List.set_cons_succ]))
                  (refine keep_pure 8 (v := ?_) rfl (by kernel_rfl) (by kernel_rfl) (by kernel_rfl) (by kernel_rfl) (fun _ _ _ h => h) (Or.inl ⟨by rfl, ?_⟩) (.inr (by exact ⟨HM5.out.c1, HM5.out.hdrCell HH5.out⟩)) ?_; rotate_left 1; focus (intro _; go_simp; (try go_ints); try (with_reducible rfl)); (try simp only [Act.put, List.setIfInBounds_toArray, List.set_cons_zero, List.set_cons_succ]))
                  (refine keep_pure 9 (v := ?_) rfl (by kernel_rfl) (by kernel_rfl) (by kernel_rfl) (by kernel_rfl) (fun _ _ _ h => h) (Or.inl ⟨by rfl, ?_⟩) (.inr (by exact ⟨HM5.out.c1, HM5.out.hdrCell HH5.out⟩)) ?_; rotate_left 1; focus (intro _; go_simp; (try go_ints); try (with_reducible rfl)); (try simp only [Act.put, List.setIfInBounds_toArray, List.set_cons_zero, List.set_cons_succ]))
                  (refine keep_load 1 (v := ?_) rfl (by kernel_rfl) (by kernel_rfl) (by kernel_rfl) (by kernel_rfl) (by kernel_rfl) (by kernel_rfl) (fun _ _ _ h => h) (Or.inl ⟨by rfl, ?_⟩) (by exact ⟨HM5.out.c1, HM5.out.hdrCell HH5.out⟩) ?_; rotate_left 1; focus (intro _ hSw; (first | (obtain ⟨_, _, _, _, _⟩ := hSw) | (obtain ⟨_, _, _, _⟩ := hSw) | (obtain ⟨_, _, _⟩ := hSw) | (obtain ⟨_, _⟩ := hSw) | skip); go_simp; (try go_ints); try (with_reducible rfl)); (try simp only [Act.put, List.setIfInBounds_toArray, List.set_cons_zero, List.set_cons_succ]))
                  (refine keep_load 4 (v := ?_) rfl (by kernel_rfl) (by kernel_rfl) (by kernel_rfl) (by kernel_rfl) (by kernel_rfl) (by kernel_rfl) (fun _ _ _ h => h) (Or.inl ⟨by rfl, ?_⟩) (by exact ⟨HM5.out.c1, HM5.out.hdrCell HH5.out⟩) ?_; rotate_left 1; focus (intro _ hSw; (first | (obtain ⟨_, _, _, _, _⟩ := hSw) | (obtain ⟨_, _, _, _⟩ := hSw) | (obtain ⟨_, _, _⟩ := hSw) | (obtain ⟨_, _⟩ := hSw) | skip); go_simp; (try go_ints); try (with_reducible rfl)); (try simp only [Act.put, List.setIfInBounds_toArray, List.set_cons_zero, List.set_cons_succ]))
                  (refine keep_pure 6 (v := ?_) rfl (by kernel_rfl) (by kernel_rfl) (by kernel_rfl) (by kernel_rfl) (fun _ _ _ h => h) (Or.inl ⟨by rfl, ?_⟩) (.inr (by exact ⟨HM5.out.c1, HM5.out.hdrCell HH5.out⟩)) ?_; rotate_left 1; focus (intro _; go_simp; (try go_ints); try (with_reducible rfl)); (try simp only [Act.put, List.setIfInBounds_toArray, List.set_cons_zero, List.set_cons_succ]))
                  (refine keep_load 7 (v := ?_) rfl (by kernel_rfl) (by kernel_rfl) (by kernel_rfl) (by kernel_rfl) (by kernel_rfl) (by kernel_rfl) (fun _ _ _ h => h) (Or.inl ⟨by rfl, ?_⟩) (by exact ⟨HM5.out.c1, HM5.out.hdrCell HH5.out⟩) ?_; rotate_left 1; focus (intro _ hSw; (first | (obtain ⟨_, _, _, _, _⟩ := hSw) | (obtain ⟨_, _, _, _⟩ := hSw) | (obtain ⟨_, _, _⟩ := hSw) | (obtain ⟨_, _⟩ := hSw) | skip); go_simp; (try go_ints); try (with_reducible rfl)); (try simp only [Act.put, List.setIfInBounds_toArray, List.set_cons_zero, List.set_cons_succ]))
                  (refine keep_one 10 (by kernel_rfl) rfl ?_)
                  intro K hK
                  go_simp
                  refine hK _ _ (fun h => (by exact ⟨(HM5.out.alloc _).drew.c1, (HM5.out.alloc _).drew.hdrCell HH5.out⟩)) ?_
                  clear hK K
                  (try simp only [Act.put, List.setIfInBounds_toArray, List.set_cons_zero, List.set_cons_succ])
                  (refine keep_one 11 (by kernel_rfl) rfl ?_)
                  intro K hK
                  (refine step_link rfl (.tmp 76) (.tmp 79) 48 rfl Try.underlying48 wr5.heap.size ((u : Int), 1) k _ _ (by rfl) (by rfl) ((HM5.out.alloc (.cells #[.int .i64 ((u : Int)), .int .i64 1] 50)).drew) HU5.out (by simp [cell_push0]) (by simp [cell_push0]) (by simp; omega) ?_)
                  intro g6 cap6 wn6 hMn
                  have z0 := hMn.c1
                  have z1 := hMn.hdrCell HH5.out
                  have z2 := hMn.hdrFree k
                  have HN6 := Lib.hid hMn
                  clear hMn
                  refine hK _ _ (fun h => (by exact ⟨z0, z1⟩)) ?_
                  clear hK K
                  (try simp only [Act.put, List.setIfInBounds_toArray, List.set_cons_zero, List.set_cons_succ])
                  (refine keep_pure 12 (v := ?_) rfl (by kernel_rfl) (by kernel_rfl) (by kernel_rfl) (by kernel_rfl) (fun _ _ _ h => h) (Or.inl ⟨by rfl, ?_⟩) (.inr (by exact ⟨z0, z1⟩)) ?_; rotate_left 1; focus (intro _; go_simp; (try go_ints); try (with_reducible rfl)); (try simp only [Act.put, List.setIfInBounds_toArray, List.set_cons_zero, List.set_cons_succ]))
                  (refine keep_one 13 (by kernel_rfl) rfl ?_)
                  intro K hK
                  go_simp
                  refine hK _ _ (fun h => absurd h (calm_not (by kernel_rfl))) ?_
                  clear hK K
                  (try simp only [Act.put, List.setIfInBounds_toArray, List.set_cons_zero, List.set_cons_succ])
                  (refine keep_done (by kernel_rfl) ?_)
                  have hM6 := HN6.out.stored
                  have hR6 := HR5.out.snoc (.slice (some ⟨g6, 0, none⟩) ((selR (parC zs) k u).length + 1) cap6) ((u : Int), 1)
                  try simp only [List.nil_append, List.cons_append, List.length_cons, List.length_nil, Nat.zero_add, Nat.reduceAdd] at hM6 hR6
                  obtain ⟨wr6, hw6⟩ : ∃ x, x = wn6.setCell ⟨hb, k, none⟩ (.slice (some ⟨g6, 0, none⟩) ((selR (parC zs) k u).length + 1) cap6) := ⟨_, rfl⟩
                  rw [← hw6] at hM6 ⊢
                  clear hw6 z0 z1 z2
                  generalize us5.set k _ = us6 at hM6 hR6
                  have HM6 := Lib.hid hM6
                  have HR6 := Lib.hid hR6
                  clear hM6 hR6
                  go_wp2
                  go_roundw
                  case rel => exact ⟨u + 1, _, by go_num, hul, by rw [selR_take hc]; exact HR6.out, HM6.out⟩
                  case measure => simp [intOf]; omega
            · obtain rfl : u = n := by omega
              go_wp2
              go_roundw
              case rel => exact ⟨k + 1, us5, by go_num, hlt, HR5.out.finish rfl, HM5.out⟩
              case measure => simp [intOf]; omega
        · obtain rfl : k = n := by omega
          have far : ∀ i, wr0.cell? ⟨w.heap.size, i, none⟩ = W.cell? ⟨w.heap.size, i, none⟩ := fun i => hM.fr.cell (p := ⟨w.heap.size, i, none⟩) (by simp; omega)
          have farf : ∀ i, wr0.frozen? ⟨w.heap.size, i, none⟩ = W.frozen? ⟨w.heap.size, i, none⟩ := fun i => hM.fr.frozen (p := ⟨w.heap.size, i, none⟩) (by simp; omega)
          have r0 : wr0.cell? ⟨w.heap.size, 0, none⟩ = some (.slice none 0 0) := by rw [far, HW.out]; simp [cell_push0]
          have r1 : wr0.cell? ⟨w.heap.size, 1, none⟩ = some (.slice none 0 0) := by rw [far, HW.out]; simp [cell_push0]
          have q4 : wr0.frozen? ⟨w.heap.size, 0, none⟩ = false := by rw [farf, HW.out]; simp [free_push0]
          have q5 : wr0.frozen? ⟨w.heap.size, 1, none⟩ = false := by rw [farf, HW.out]; simp [free_push0]
          have HM := Lib.hid hM
          have HR := Lib.hid hR
          clear hM hR far farf
          go_wp2
          refine bodyPost_ret (v := .tuple #[.agg #[.slice a1 k q1, .slice (some ⟨hb, 0, none⟩) k q2], .int .i64 0]) (by rw [results_c1 rfl]; go_simp) rfl ?_
          have HO : Hid (parO zs = .inr (famG k fun v => selR (parC zs) v k)) := Lib.hid (by
            unfold parO
            rw [if_pos ⟨by rw [Hnl.out]; exact hn, H0.out, fun v h1 h2 => Hok.out v h1 (by rw [Hnl.out] at h2; exact h2)⟩, Hnl.out])
          rw [HO.out]
          exact fam_done HM.out HR.out HW.out (selR_fit (parC zs) k h2) h2

theorem parents_any (a : Option Addr) (c : Nat) (zs : List Int) (w : World) (hz : IntsAt w a zs) :
    Calls Try.prog 23 #[.slice a zs.length c] w fun e w' => FamOwn w.heap.size (parO zs) e w' ∧ Below w.heap.size w w' := by
  by_cases h : inB zs.length 1 24 = true ∧ idA zs 0 = -1
  · have hr : 1 ≤ zs.length ∧ zs.length ≤ 24 := by
      have := h.1
      simp [inB] at this
      omega
    obtain ⟨b, o, rfl, hb, _⟩ := hz.row (by omega)
    exact parE_ok b o c zs zs.length w rfl hr.1 hr.2 hz hb h.2
  · have e : parO zs = .inl 2 := by
      unfold parO
      rw [if_neg (fun k => h ⟨k.1, k.2.1⟩)]
    rw [e]
    refine parE_any a c zs w hz ?_
    cases h1 : inB zs.length 1 24 with
    | false => exact .inl rfl
    | true => exact .inr ⟨rfl, fun h2 => h ⟨h1, h2⟩⟩
end Go.Proofs.Ytkffpipcjdhbaaa
