/- What Grid of the specification of layer 3 answers. -/
import Derived.Test.YtkffpipcjdhbaaaRefF0
namespace Go.Proofs.Ytkffpipcjdhbaaa
open Go.RowKit

def gridC (wd k u : Nat) : Bool := (u % wd == k % wd && (u / wd + 1 == k / wd || u / wd == k / wd + 1)) || (u / wd == k / wd && (u % wd + 1 == k % wd || u % wd == k % wd + 1))
def gridG (wd ht : Nat) : Gr := famG (wd * ht) fun k => selR (gridC wd) k (wd * ht)
def gridO (wd ht : Int) : Int ⊕ Gr := if inB wd 1 24 ∧ inB ht 1 24 ∧ wd * ht ≤ 24 then .inr (gridG wd.toNat ht.toNat) else .inl 2
theorem beq_t {a b : Int} (h : a = b) : (a == b) = true := by simp [h]
theorem beq_f {a b : Int} (h : a ≠ b) : (a == b) = false := by simp [h]
theorem gridC_t {wd k u : Nat} (h : gridC wd k u = true) : (u % wd = k % wd ∧ u / wd + 1 = k / wd) ∨ (u % wd = k % wd ∧ u / wd = k / wd + 1) ∨ (u % wd ≠ k % wd ∧ u / wd = k / wd ∧ u % wd + 1 = k % wd) ∨ (u % wd ≠ k % wd ∧ u / wd = k / wd ∧ u % wd = k % wd + 1) := by
  unfold gridC at h
  simp only [Bool.or_eq_true, Bool.and_eq_true, beq_iff_eq] at h
  omega
theorem gridC_f {wd k u : Nat} (h : gridC wd k u = false) : (u % wd = k % wd ∧ u / wd = k / wd) ∨ (u % wd = k % wd ∧ u / wd ≠ k / wd ∧ u / wd + 1 ≠ k / wd ∧ u / wd ≠ k / wd + 1) ∨ (u % wd ≠ k % wd ∧ u / wd ≠ k / wd) ∨ (u % wd ≠ k % wd ∧ u / wd = k / wd ∧ u % wd + 1 ≠ k % wd ∧ u % wd ≠ k % wd + 1) := by
  have h' : ¬ gridC wd k u = true := by rw [h]; simp
  unfold gridC at h'
  simp only [Bool.or_eq_true, Bool.and_eq_true, beq_iff_eq] at h'
  omega
set_option maxHeartbeats 2000000 in
theorem gridE_any (wd ht : Int) (w : World) (hn : inB wd 1 24 = false ∨ (inB wd 1 24 = true ∧ inB ht 1 24 = false) ∨ (inB wd 1 24 = true ∧ inB ht 1 24 = true ∧ 24 < wd * ht)) :
    Calls Try.prog 21 #[.int .i64 wd, .int .i64 ht] w fun e w' => FamOwn w.heap.size (.inl 2) e w' ∧ Below w.heap.size w w' := by
  have hmul : inB wd 1 24 = true → inB ht 1 24 = true → 1 ≤ wd * ht ∧ wd * ht ≤ 576 := fun a b => by
    have ha : 1 ≤ wd ∧ wd ≤ 24 := by simpa [inB] using a
    have hb : 1 ≤ ht ∧ ht ≤ 24 := by simpa [inB] using b
    obtain ⟨x, rfl⟩ : ∃ x : Nat, wd = x := ⟨wd.toNat, by omega⟩
    obtain ⟨y, rfl⟩ : ∃ y : Nat, ht = y := ⟨ht.toNat, by omega⟩
    have h1 : 1 * 1 ≤ x * y := Nat.mul_le_mul (by omega) (by omega)
    have h2 : x * y ≤ 24 * 24 := Nat.mul_le_mul (by omega) (by omega)
    have e : (x : Int) * (y : Int) = ((x * y : Nat) : Int) := by simp
    rw [e]
    omega
  go_enter Try.func21, Try.ntmps21
  rcases hn with hn | ⟨hn, hn2⟩ | ⟨hn, hn2, hn3⟩
  case' inr.inr => (obtain ⟨hm1, hm2⟩ := hmul hn hn2; have hd : decide (24 < wd * ht) = true := by simp [hn3])
  all_goals
    clear hmul
    go_wp2_with (go_at_call 43; refine (in_any _ _ _ _).mono ?_; rintro e w1 ⟨rfl, rfl⟩)
    refine bodyPost_ret (v := .tuple #[.agg #[.slice none 0 0, .slice none 0 0], .int .i64 2]) (by rw [results_c1 rfl]; go_simp) rfl ?_
    exact ⟨noFam 2 _, (Below.refl _ _).alloc (Nat.le_refl _) _⟩
set_option linter.unusedSimpArgs false in
set_option maxHeartbeats 4000000 in
set_option maxRecDepth 100000 in
theorem gridE_ok (wd ht n : Nat) (w : World) (hwh : wd * ht = n) (h3 : 1 ≤ wd) (h4 : wd ≤ 24) (h5 : 1 ≤ ht) (h6 : ht ≤ 24) (h2 : n ≤ 24) :
    Calls Try.prog 21 #[.int .i64 wd, .int .i64 ht] w fun e w' => FamOwn w.heap.size (.inr (gridG wd ht)) e w' ∧ Below w.heap.size w w' := by
  have hn : inB wd 1 24 = true := by unfold inB; simp; omega
  have hn2 : inB ht 1 24 = true := by unfold inB; simp; omega
  have hmul : (wd : Int) * (ht : Int) = (n : Int) := by rw [← hwh]; simp
  have h1 : 1 ≤ n := by
    have := Nat.mul_le_mul h3 h5
    omega
  unfold gridG
  rw [hwh]
  clear hwh
  go_enter Try.func21, Try.ntmps21
  go_wp2_with (first | (go_at_call 43; refine (in_any _ _ _ _).mono ?_; rintro e w1 ⟨rfl, rfl⟩) | (go_at_call 44; refine (plain_any n (by omega) _).mono ?_; rintro e w1 ⟨⟨a1, q1, a2, q2, rfl, hA⟩, hb1⟩))
  obtain ⟨W, hW⟩ : ∃ W, W = w.alloc (.cells #[.slice none 0 0, .slice none 0 0] 26) := ⟨_, rfl⟩
  rw [← hW] at hA hb1
  have hWs : W.heap.size = w.heap.size + 1 := by rw [hW]; simp
  have hs1 := hb1.size
  rw [hWs] at hs1
  obtain ⟨a0, _, e2, _, p2⟩ := own_slice (hA.own (hdrR (.slice a2 n q2) ((bare n).map Prod.fst)) (by simp))
  obtain ⟨hb, rfl, _⟩ : ∃ g, a2 = some ⟨g, 0, none⟩ ∧ g < w1.heap.size := by
    injection e2 with e2
    rw [e2]
    exact p2 (by simp [hdrR, bare_len]; omega)
  clear e2 p2
  have hM0 := Made.box (z1 := .slice a1 n q1) (z2 := .slice (some ⟨hb, 0, none⟩) n q2) (t := 26) hA hb1
  clear hA hb1
  have HMs := Lib.hid hM0
  have HW := Lib.hid hW
  clear hM0 hW
  obtain ⟨gb, hgb⟩ : ∃ gb, gb = w1.heap.size := ⟨_, rfl⟩
  rw [← hgb] at HMs hs1
  rw [← hgb]
  clear hgb
  go_loopw [7] (fun t wr => ∃ (k : Nat) (us : List (Value × List (Int × Int))), t = .int .i64 k ∧ k ≤ n ∧ RowsR n (upR (fun k => selR (gridC wd) k n) k) us ∧ Made W gb wr (.slice a1 n q1) (.slice (some ⟨hb, 0, none⟩) n q2) (.slice a1 n q1) (upTo n) (.slice (some ⟨hb, 0, none⟩) n q2) (us.map Prod.fst) us) (fun t _ => n - (intOf t).toNat)
  case atStart => exact ⟨0, bare n, rfl, Nat.zero_le _, RowsR.bare n _, HMs.out⟩
  case round =>
    obtain ⟨k, us0, rfl, hk, hR, hM⟩ := hrel
    obtain ⟨wr0, hwr0⟩ : ∃ x, x = wr := ⟨_, rfl⟩
    subst hwr0
    have c0 := hM.c0
    have c1 := hM.c1
    have hsz := hM.fr.size
    by_cases hlt : k < n
    · have HRa := Lib.hid hR.begin
      have HMa := Lib.hid hM
      clear hM hR c0
      have hwz : wd ≠ 0 := by omega
      obtain ⟨xk, hxk⟩ : ∃ x, x = k % wd := ⟨_, rfl⟩
      obtain ⟨yk, hyk⟩ : ∃ x, x = k / wd := ⟨_, rfl⟩
      have ex : (k : Int) % (wd : Int) = (xk : Int) := by rw [hxk]; simp
      have ey : (k : Int) / (wd : Int) = (yk : Int) := by rw [hyk]; simp
      have hxk' : xk ≤ k := by rw [hxk]; exact Nat.mod_le _ _
      have hyk' : yk ≤ k := by rw [hyk]; exact Nat.div_le_self _ _
      have Hxk := Lib.hid hxk
      have Hyk := Lib.hid hyk
      clear hxk hyk
      go_wp2
      refine keep_start (fun _ => True) [] (by kernel_rfl) ?_
      (refine keep_pure 0 (v := ?_) rfl (by kernel_rfl) (by kernel_rfl) (by kernel_rfl) (by kernel_rfl) (fun _ _ _ h => h) (Or.inl ⟨by rfl, ?_⟩) (.inr (by trivial)) ?_; rotate_left 1; focus (intro _; go_simp; (try go_ints); try (with_reducible rfl)); (try simp only [Act.put, List.setIfInBounds_toArray, List.set_cons_zero, List.set_cons_succ]))
      (refine keep_pure 1 (v := ?_) rfl (by kernel_rfl) (by kernel_rfl) (by kernel_rfl) (by kernel_rfl) (fun _ _ _ h => h) (Or.inl ⟨by rfl, ?_⟩) (.inr (by trivial)) ?_; rotate_left 1; focus (intro _; go_simp; (try go_ints); try (with_reducible rfl)); (try simp only [Act.put, List.setIfInBounds_toArray, List.set_cons_zero, List.set_cons_succ]))
      (refine keep_pure 2 (v := ?_) rfl (by kernel_rfl) (by kernel_rfl) (by kernel_rfl) (by kernel_rfl) (fun _ _ _ h => h) (Or.inl ⟨by rfl, ?_⟩) (.inr (by trivial)) ?_; rotate_left 1; focus (intro _; go_simp; (try go_ints); try (with_reducible rfl)); (try simp only [Act.put, List.setIfInBounds_toArray, List.set_cons_zero, List.set_cons_succ]))
      (refine keep_pure 3 (v := ?_) rfl (by kernel_rfl) (by kernel_rfl) (by kernel_rfl) (by kernel_rfl) (fun _ _ _ h => h) (Or.inl ⟨by rfl, ?_⟩) (.inr (by trivial)) ?_; rotate_left 1; focus (intro _; go_simp; (try go_ints); try (with_reducible rfl)); (try simp only [Act.put, List.setIfInBounds_toArray, List.set_cons_zero, List.set_cons_succ]))
      (refine keep_pure 4 (v := ?_) rfl (by kernel_rfl) (by kernel_rfl) (by kernel_rfl) (by kernel_rfl) (fun _ _ _ h => h) (Or.inl ⟨by rfl, ?_⟩) (.inr (by trivial)) ?_; rotate_left 1; focus (intro _; go_simp; (try go_ints); try (with_reducible rfl)); (try simp only [Act.put, List.setIfInBounds_toArray, List.set_cons_zero, List.set_cons_succ]))
      (refine keep_pure 5 (v := ?_) rfl (by kernel_rfl) (by kernel_rfl) (by kernel_rfl) (by kernel_rfl) (fun _ _ _ h => h) (Or.inl ⟨by rfl, ?_⟩) (.inr (by trivial)) ?_; rotate_left 1; focus (intro _; go_simp; (try go_ints); try (with_reducible rfl)); (try simp only [Act.put, List.setIfInBounds_toArray, List.set_cons_zero, List.set_cons_succ]))
      (refine keep_pure 6 (v := ?_) rfl (by kernel_rfl) (by kernel_rfl) (by kernel_rfl) (by kernel_rfl) (fun _ _ _ h => h) (Or.inl ⟨by rfl, ?_⟩) (.inr (by trivial)) ?_; rotate_left 1; focus (intro _; go_simp; (try go_ints); try (with_reducible rfl)); (try simp only [Act.put, List.setIfInBounds_toArray, List.set_cons_zero, List.set_cons_succ]))
      (refine keep_pure 7 (v := ?_) rfl (by kernel_rfl) (by kernel_rfl) (by kernel_rfl) (by kernel_rfl) (fun _ _ _ h => h) (Or.inl ⟨by rfl, ?_⟩) (.inr (by trivial)) ?_; rotate_left 1; focus (intro _; go_simp; (try go_ints); try (with_reducible rfl)); (try simp only [Act.put, List.setIfInBounds_toArray, List.set_cons_zero, List.set_cons_succ]))
      (refine keep_done (by kernel_rfl) ?_)
      go_wp2
      clear ex ey
      have HMb := Lib.hid HMa.out.drew
      obtain ⟨wo, hwo⟩ : ∃ wo : World, wo = wr0.drew := ⟨_, rfl⟩
      rw [← hwo] at HMb ⊢
      clear hwo HMa c1 hsz
      go_loopw [10] (fun t wr => ∃ (u : Nat) (us : List (Value × List (Int × Int))), t = .int .i64 u ∧ u ≤ n ∧ RowsR n (upRx (fun k => selR (gridC wd) k n) k (selR (gridC wd) k u)) us ∧ Made W gb wr (.slice a1 n q1) (.slice (some ⟨hb, 0, none⟩) n q2) (.slice a1 n q1) (upTo n) (.slice (some ⟨hb, 0, none⟩) n q2) (us.map Prod.fst) us) (fun t _ => n - (intOf t).toNat)
      case atStart => exact ⟨0, us0, rfl, Nat.zero_le _, HRa.out, HMb.out⟩
      case round =>
        clear HMb HRa
        clear us0
        obtain ⟨u, us0, rfl, hu, hR, hM⟩ := hrel
        obtain ⟨wr0, hwr0⟩ : ∃ x, x = wr := ⟨_, rfl⟩
        subst hwr0
        have hsl := selR_len (gridC wd) k u
        have HM0 := Lib.hid hM
        have HR0 := Lib.hid hR
        clear hM hR
        by_cases hul : u < n
        · obtain ⟨xu, hxu⟩ : ∃ x, x = u % wd := ⟨_, rfl⟩
          obtain ⟨yu, hyu⟩ : ∃ x, x = u / wd := ⟨_, rfl⟩
          have ex : (u : Int) % (wd : Int) = (xu : Int) := by rw [hxu]; simp
          have ey : (u : Int) / (wd : Int) = (yu : Int) := by rw [hyu]; simp
          have hxu' : xu ≤ u := by rw [hxu]; exact Nat.mod_le _ _
          have hyu' : yu ≤ u := by rw [hyu]; exact Nat.div_le_self _ _
          have Hxu := Lib.hid hxu
          have Hyu := Lib.hid hyu
          clear hxu hyu
          go_wp2
          refine keep_start (fun _ => True) [] (by kernel_rfl) ?_
          (refine keep_pure 0 (v := ?_) rfl (by kernel_rfl) (by kernel_rfl) (by kernel_rfl) (by kernel_rfl) (fun _ _ _ h => h) (Or.inl ⟨by rfl, ?_⟩) (.inr (by trivial)) ?_; rotate_left 1; focus (intro _; go_simp; (try go_ints); try (with_reducible rfl)); (try simp only [Act.put, List.setIfInBounds_toArray, List.set_cons_zero, List.set_cons_succ]))
          (refine keep_pure 1 (v := ?_) rfl (by kernel_rfl) (by kernel_rfl) (by kernel_rfl) (by kernel_rfl) (fun _ _ _ h => h) (Or.inl ⟨by rfl, ?_⟩) (.inr (by trivial)) ?_; rotate_left 1; focus (intro _; go_simp; (try go_ints); try (with_reducible rfl)); (try simp only [Act.put, List.setIfInBounds_toArray, List.set_cons_zero, List.set_cons_succ]))
          (refine keep_pure 2 (v := ?_) rfl (by kernel_rfl) (by kernel_rfl) (by kernel_rfl) (by kernel_rfl) (fun _ _ _ h => h) (Or.inl ⟨by rfl, ?_⟩) (.inr (by trivial)) ?_; rotate_left 1; focus (intro _; go_simp; (try go_ints); try (with_reducible rfl)); (try simp only [Act.put, List.setIfInBounds_toArray, List.set_cons_zero, List.set_cons_succ]))
          (refine keep_pure 3 (v := ?_) rfl (by kernel_rfl) (by kernel_rfl) (by kernel_rfl) (by kernel_rfl) (fun _ _ _ h => h) (Or.inl ⟨by rfl, ?_⟩) (.inr (by trivial)) ?_; rotate_left 1; focus (intro _; go_simp; (try go_ints); try (with_reducible rfl)); (try simp only [Act.put, List.setIfInBounds_toArray, List.set_cons_zero, List.set_cons_succ]))
          (refine keep_pure 4 (v := ?_) rfl (by kernel_rfl) (by kernel_rfl) (by kernel_rfl) (by kernel_rfl) (fun _ _ _ h => h) (Or.inl ⟨by rfl, ?_⟩) (.inr (by trivial)) ?_; rotate_left 1; focus (intro _; go_simp; (try go_ints); try (with_reducible rfl)); (try simp only [Act.put, List.setIfInBounds_toArray, List.set_cons_zero, List.set_cons_succ]))
          (refine keep_pure 5 (v := ?_) rfl (by kernel_rfl) (by kernel_rfl) (by kernel_rfl) (by kernel_rfl) (fun _ _ _ h => h) (Or.inl ⟨by rfl, ?_⟩) (.inr (by trivial)) ?_; rotate_left 1; focus (intro _; go_simp; (try go_ints); try (with_reducible rfl)); (try simp only [Act.put, List.setIfInBounds_toArray, List.set_cons_zero, List.set_cons_succ]))
          (refine keep_pure 6 (v := ?_) rfl (by kernel_rfl) (by kernel_rfl) (by kernel_rfl) (by kernel_rfl) (fun _ _ _ h => h) (Or.inl ⟨by rfl, ?_⟩) (.inr (by trivial)) ?_; rotate_left 1; focus (intro _; go_simp; (try go_ints); try (with_reducible rfl)); (try simp only [Act.put, List.setIfInBounds_toArray, List.set_cons_zero, List.set_cons_succ]))
          (refine keep_pure 7 (v := ?_) rfl (by kernel_rfl) (by kernel_rfl) (by kernel_rfl) (by kernel_rfl) (fun _ _ _ h => h) (Or.inl ⟨by rfl, ?_⟩) (.inr (by trivial)) ?_; rotate_left 1; focus (intro _; go_simp; (try go_ints); try (with_reducible rfl)); (try simp only [Act.put, List.setIfInBounds_toArray, List.set_cons_zero, List.set_cons_succ]))
          (refine keep_done (by kernel_rfl) ?_)
          clear ex ey
          have HMd := Lib.hid HM0.out.drew
          obtain ⟨wr5, hwr5⟩ : ∃ wo : World, wo = wr0.drew := ⟨_, rfl⟩
          rw [← hwr5] at HMd ⊢
          clear hwr5 HM0
          obtain ⟨us5, hus5⟩ : ∃ x, x = us0 := ⟨_, rfl⟩
          subst hus5
          have HM5 := HMd
          have HR5 := HR0
          clear HMd HR0
          cases hc : gridC wd k u with
          | false =>
            have hcs := gridC_f hc
            rw [← Hxu.out, ← Hyu.out, ← Hxk.out, ← Hyk.out] at hcs
            rcases hcs with hcs | hcs | hcs | hcs
            all_goals
              first | (have eq0 : ((xu : Int) == (xk : Int)) = true := beq_t (by omega)) | (have eq0 : ((xu : Int) == (xk : Int)) = false := beq_f (by omega)) | skip
              first | (have eq1 : ((yu : Int) == (yk : Int) - 1) = true := beq_t (by omega)) | (have eq1 : ((yu : Int) == (yk : Int) - 1) = false := beq_f (by omega)) | skip
              first | (have eq2 : ((yu : Int) == (yk : Int) + 1) = true := beq_t (by omega)) | (have eq2 : ((yu : Int) == (yk : Int) + 1) = false := beq_f (by omega)) | skip
              first | (have eq3 : ((yu : Int) == (yk : Int)) = true := beq_t (by omega)) | (have eq3 : ((yu : Int) == (yk : Int)) = false := beq_f (by omega)) | skip
              first | (have eq4 : ((xu : Int) == (xk : Int) - 1) = true := beq_t (by omega)) | (have eq4 : ((xu : Int) == (xk : Int) - 1) = false := beq_f (by omega)) | skip
              first | (have eq5 : ((xu : Int) == (xk : Int) + 1) = true := beq_t (by omega)) | (have eq5 : ((xu : Int) == (xk : Int) + 1) = false := beq_f (by omega)) | skip
              clear hcs
              go_wp2
              go_roundw
              case rel => exact ⟨u + 1, us5, by go_num, hul, by rw [selR_skip hc]; exact HR5.out, HM5.out⟩
              case measure => simp [intOf]; omega
          | true =>
            have hcs := gridC_t hc
            rw [← Hxu.out, ← Hyu.out, ← Hxk.out, ← Hyk.out] at hcs
            obtain ⟨ua5, uc5, hu5, hh5⟩ := HM5.out.rowX HR5.out hlt
            try simp only [List.nil_append, List.length_cons, List.length_nil, Nat.zero_add] at hu5 hh5
            have c1_5 := HM5.out.c1
            have ck5 := HM5.out.hdrCell hh5
            have HU5 := Lib.hid hu5
            have HH5 := Lib.hid hh5
            clear hu5 hh5
            rcases hcs with hcs | hcs | hcs | hcs
            all_goals
              first | (have eq0 : ((xu : Int) == (xk : Int)) = true := beq_t (by omega)) | (have eq0 : ((xu : Int) == (xk : Int)) = false := beq_f (by omega)) | skip
              first | (have eq1 : ((yu : Int) == (yk : Int) - 1) = true := beq_t (by omega)) | (have eq1 : ((yu : Int) == (yk : Int) - 1) = false := beq_f (by omega)) | skip
              first | (have eq2 : ((yu : Int) == (yk : Int) + 1) = true := beq_t (by omega)) | (have eq2 : ((yu : Int) == (yk : Int) + 1) = false := beq_f (by omega)) | skip
              first | (have eq3 : ((yu : Int) == (yk : Int)) = true := beq_t (by omega)) | (have eq3 : ((yu : Int) == (yk : Int)) = false := beq_f (by omega)) | skip
              first | (have eq4 : ((xu : Int) == (xk : Int) - 1) = true := beq_t (by omega)) | (have eq4 : ((xu : Int) == (xk : Int) - 1) = false := beq_f (by omega)) | skip
              first | (have eq5 : ((xu : Int) == (xk : Int) + 1) = true := beq_t (by omega)) | (have eq5 : ((xu : Int) == (xk : Int) + 1) = false := beq_f (by omega)) | skip
              clear hcs
              go_wp2
              refine keep_start (fun w' => w'.cell? ⟨gb, 1, none⟩ = some (.slice (some ⟨hb, 0, none⟩) n q2) ∧ w'.cell? ⟨hb, k, none⟩ = some (.slice ua5 ((selR (gridC wd) k u).length) uc5)) [13] (by kernel_rfl) ?_
              (refine keep_pure 0 (v := ?_) rfl (by kernel_rfl) (by kernel_rfl) (by kernel_rfl) (by kernel_rfl) (fun _ _ _ h => h) (Or.inl ⟨by rfl, ?_⟩) (.inr (by exact ⟨HM5.out.c1, HM5.out.hdrCell HH5.out⟩)) ?_; rotate_left 1; focus (intro _; go_simp; (try go_ints); try (with_reducible rfl)); (try simp only [Act.put, List.setIfInBounds_toArray, List.set_cons_zero, List.set_cons_succ]))
              (refine keep_pure 2 (v := ?_) rfl (by kernel_rfl) (by kernel_rfl) (by kernel_rfl) (by kernel_rfl) (fun _ _ _ h => h) (Or.inl ⟨by rfl, ?_⟩) (.inr (by exact ⟨HM5.out.c1, HM5.out.hdrCell HH5.out⟩)) ?_; rotate_left 1; focus (intro _; go_simp; (try go_ints); try (with_reducible rfl)); (try simp only [Act.put, List.setIfInBounds_toArray, List.set_cons_zero, List.set_cons_succ]))
              (refine keep_pure 3 (v := ?_) rfl (by kernel_rfl) (by kernel_rfl) (by kernel_rfl) (by kernel_rfl) (fun _ _ _ h => h) (Or.inl ⟨by rfl, ?_⟩) (.inr (by exact ⟨HM5.out.c1, HM5.out.hdrCell HH5.out⟩)) ?_; rotate_left 1; focus (intro _; go_simp; (try go_ints); try (with_reducible rfl)); (try simp only [Act.put, List.setIfInBounds_toArray, List.set_cons_zero, List.set_cons_succ]))
              (refine keep_pure 5 (v := ?_) rfl (by kernel_rfl) (by kernel_rfl) (by kernel_rfl) (by kernel_rfl) (fun _ _ _ h => h) (Or.inl ⟨by rfl, ?_⟩) (.inr (by exact ⟨HM5.out.c1, HM5.out.hdrCell HH5.out⟩)) ?_; rotate_left 1; focus (intro _; go_simp; (try go_ints); try (with_reducible rfl)); (try simp only [Act.put, List.setIfInBounds_toArray, List.set_cons_zero, List.set_cons_succ]))
              (refine keep_pure 8 (v := ?_) rfl (by kernel_rfl) (by kernel_rfl) (by kernel_rfl) (by kernel_rfl) (fun _ _ _ h => h) (Or.inl ⟨by rfl, ?_⟩) (.inr (by exact ⟨HM5.out.c1, HM5.out.hdrCell HH5.out⟩)) ?_; rotate_left 1; focus (intro _; go_simp; (try go_ints); try (with_reducible rfl)); (try simp only [Act.put, List.setIfInBounds_toArray, List.set_cons_zero, List.set_cons_succ]))
              (refine keep_pure 9 (v := ?_) rfl (by kernel_rfl) (by kernel_rfl) (by kernel_rfl) (by kernel_rfl) (fun _ _ _ h => h) (Or.inl ⟨by rfl, ?_⟩) (.inr (by exact ⟨HM5.out.c1, HM5.out.hdrCell HH5.out⟩)) ?_; rotate_left 1; focus (intro _; go_simp; (try go_ints); try (with_reducible rfl)); (try simp only [Act.put, List.setIfInBounds_toArray, List.set_cons_zero, List.set_cons_succ]))
              (refine keep_load 1 (v := ?_) rfl (by kernel_rfl) (by kernel_rfl) (by kernel_rfl) (by kernel_rfl) (by kernel_rfl) (by kernel_rfl) (fun _ _ _ h => h) (Or.inl ⟨by rfl, ?_⟩) (by exact ⟨HM5.out.c1, HM5.out.hdrCell HH5.out⟩) ?_; rotate_left 1; focus (intro _ hSw; (first | (obtain ⟨_, _, _, _, _⟩ := hSw) | (obtain ⟨_, _, _, _⟩ := hSw) | (obtain ⟨_, _, _⟩ := hSw) | (obtain ⟨_, _⟩ := hSw) | skip); go_simp; (try go_ints); try (with_reducible rfl)); (try simp only [Act.put, List.setIfInBounds_toArray, List.set_cons_zero, List.set_cons_succ]))
              (refine keep_load 4 (v := ?_) rfl (by kernel_rfl) (by kernel_rfl) (by kernel_rfl) (by kernel_rfl) (by kernel_rfl) (by kernel_rfl) (fun _ _ _ h => h) (Or.inl ⟨by rfl, ?_⟩) (by exact ⟨HM5.out.c1, HM5.out.hdrCell HH5.out⟩) ?_; rotate_left 1; focus (intro _ hSw; (first | (obtain ⟨_, _, _, _, _⟩ := hSw) | (obtain ⟨_, _, _, _⟩ := hSw) | (obtain ⟨_, _, _⟩ := hSw) | (obtain ⟨_, _⟩ := hSw) | skip); go_simp; (try go_ints); try (with_reducible rfl)); (try simp only [Act.put, List.setIfInBounds_toArray, List.set_cons_zero, List.set_cons_succ]))
              (refine keep_pure 6 (v := ?_) rfl (by kernel_rfl) (by kernel_rfl) (by kernel_rfl) (by kernel_rfl) (fun _ _ _ h => h) (Or.inl ⟨by rfl, ?_⟩) (.inr (by exact ⟨HM5.out.c1, HM5.out.hdrCell HH5.out⟩)) ?_; rotate_left 1; focus (intro _; go_simp; (try go_ints); try (with_reducible rfl)); (try simp only [Act.put, List.setIfInBounds_toArray, List.set_cons_zero, List.set_cons_succ]))
              (refine keep_load 7 (v := ?_) rfl (by kernel_rfl) (by kernel_rfl) (by kernel_rfl) (by kernel_rfl) (by kernel_rfl) (by kernel_rfl) (fun _ _ _ h => h) (Or.inl ⟨by rfl, ?_⟩) (by exact ⟨HM5.out.c1, HM5.out.hdrCell HH5.out⟩) ?_; rotate_left 1; focus (intro _ hSw; (first | (obtain ⟨_, _, _, _, _⟩ := hSw) | (obtain ⟨_, _, _, _⟩ := hSw) | (obtain ⟨_, _, _⟩ := hSw) | (obtain ⟨_, _⟩ := hSw) | skip); go_simp; (try go_ints); try (with_reducible rfl)); (try simp only [Act.put, List.setIfInBounds_toArray, List.set_cons_zero, List.set_cons_succ]))
              (refine keep_one 10 (by kernel_rfl) rfl ?_)
              intro K hK
              go_simp
              refine hK _ _ (fun h => (by exact ⟨(HM5.out.alloc _).drew.c1, (HM5.out.alloc _).drew.hdrCell HH5.out⟩)) ?_
              clear hK K
              (try simp only [Act.put, List.setIfInBounds_toArray, List.set_cons_zero, List.set_cons_succ])
              (refine keep_one 11 (by kernel_rfl) rfl ?_)
              intro K hK
              (refine step_link rfl (.tmp 97) (.tmp 100) 48 rfl Try.underlying48 wr5.heap.size ((u : Int), 1) k _ _ (by rfl) (by rfl) ((HM5.out.alloc (.cells #[.int .i64 ((u : Int)), .int .i64 1] 50)).drew) HU5.out (by simp [cell_push0]) (by simp [cell_push0]) (by simp; omega) ?_)
              intro g6 cap6 wn6 hMn
              have z0 := hMn.c1
              have z1 := hMn.hdrCell HH5.out
              have z2 := hMn.hdrFree k
              have HN6 := Lib.hid hMn
              clear hMn
              refine hK _ _ (fun h => (by exact ⟨z0, z1⟩)) ?_
              clear hK K
              (try simp only [Act.put, List.setIfInBounds_toArray, List.set_cons_zero, List.set_cons_succ])
              (refine keep_pure 12 (v := ?_) rfl (by kernel_rfl) (by kernel_rfl) (by kernel_rfl) (by kernel_rfl) (fun _ _ _ h => h) (Or.inl ⟨by rfl, ?_⟩) (.inr (by exact ⟨z0, z1⟩)) ?_; rotate_left 1; focus (intro _; go_simp; (try go_ints); try (with_reducible rfl)); (try simp only [Act.put, List.setIfInBounds_toArray, List.set_cons_zero, List.set_cons_succ]))
              (refine keep_one 13 (by kernel_rfl) rfl ?_)
              intro K hK
              go_simp
              refine hK _ _ (fun h => absurd h (calm_not (by kernel_rfl))) ?_
              clear hK K
              (try simp only [Act.put, List.setIfInBounds_toArray, List.set_cons_zero, List.set_cons_succ])
              (refine keep_done (by kernel_rfl) ?_)
              have hM6 := HN6.out.stored
              have hR6 := HR5.out.snoc (.slice (some ⟨g6, 0, none⟩) ((selR (gridC wd) k u).length + 1) cap6) ((u : Int), 1)
              try simp only [List.nil_append, List.cons_append, List.length_cons, List.length_nil, Nat.zero_add, Nat.reduceAdd] at hM6 hR6
              obtain ⟨wr6, hw6⟩ : ∃ x, x = wn6.setCell ⟨hb, k, none⟩ (.slice (some ⟨g6, 0, none⟩) ((selR (gridC wd) k u).length + 1) cap6) := ⟨_, rfl⟩
              rw [← hw6] at hM6 ⊢
              clear hw6 z0 z1 z2
              generalize us5.set k _ = us6 at hM6 hR6
              have HM6 := Lib.hid hM6
              have HR6 := Lib.hid hR6
              clear hM6 hR6
              go_wp2
              go_roundw
              case rel => exact ⟨u + 1, _, by go_num, hul, by rw [selR_take hc]; exact HR6.out, HM6.out⟩
              case measure => simp [intOf]; omega
        · obtain rfl : u = n := by omega
          go_wp2
          go_roundw
          case rel => exact ⟨k + 1, us0, by go_num, hlt, HR0.out.finish rfl, HM0.out⟩
          case measure => simp [intOf]; omega
    · obtain rfl : k = n := by omega
      have far : ∀ i, wr0.cell? ⟨w.heap.size, i, none⟩ = W.cell? ⟨w.heap.size, i, none⟩ := fun i => hM.fr.cell (p := ⟨w.heap.size, i, none⟩) (by simp; omega)
      have farf : ∀ i, wr0.frozen? ⟨w.heap.size, i, none⟩ = W.frozen? ⟨w.heap.size, i, none⟩ := fun i => hM.fr.frozen (p := ⟨w.heap.size, i, none⟩) (by simp; omega)
      have r0 : wr0.cell? ⟨w.heap.size, 0, none⟩ = some (.slice none 0 0) := by rw [far, HW.out]; simp [cell_push0]
      have r1 : wr0.cell? ⟨w.heap.size, 1, none⟩ = some (.slice none 0 0) := by rw [far, HW.out]; simp [cell_push0]
      have q4 : wr0.frozen? ⟨w.heap.size, 0, none⟩ = false := by rw [farf, HW.out]; simp [free_push0]
      have q5 : wr0.frozen? ⟨w.heap.size, 1, none⟩ = false := by rw [farf, HW.out]; simp [free_push0]
      have HM := Lib.hid hM
      have HR := Lib.hid hR
      clear hM hR far farf
      go_wp2
      refine bodyPost_ret (v := .tuple #[.agg #[.slice a1 k q1, .slice (some ⟨hb, 0, none⟩) k q2], .int .i64 0]) (by rw [results_c1 rfl]; go_simp) rfl ?_
      exact fam_done HM.out HR.out HW.out (selR_fit (gridC wd) k h2) h2
theorem grid_any (wd ht : Int) (w : World) :
    Calls Try.prog 21 #[.int .i64 wd, .int .i64 ht] w fun e w' => FamOwn w.heap.size (gridO wd ht) e w' ∧ Below w.heap.size w w' := by
  unfold gridO
  by_cases hc : inB wd 1 24 = true ∧ inB ht 1 24 = true ∧ wd * ht ≤ 24
  · rw [if_pos hc]
    have ha : 1 ≤ wd ∧ wd ≤ 24 := by simpa [inB] using hc.1
    have hb : 1 ≤ ht ∧ ht ≤ 24 := by simpa [inB] using hc.2.1
    obtain ⟨x, rfl⟩ : ∃ x : Nat, wd = x := ⟨wd.toNat, by omega⟩
    obtain ⟨y, rfl⟩ : ∃ y : Nat, ht = y := ⟨ht.toNat, by omega⟩
    have h : ((x * y : Nat) : Int) ≤ 24 := by simpa using hc.2.2
    exact gridE_ok x y (x * y) w rfl (by omega) (by omega) (by omega) (by omega) (by omega)
  · rw [if_neg hc]
    refine gridE_any wd ht w ?_
    cases h1 : inB wd 1 24 with
    | false => exact .inl rfl
    | true =>
      cases h2 : inB ht 1 24 with
      | false => exact .inr (.inl ⟨rfl, rfl⟩)
      | true => exact .inr (.inr ⟨rfl, rfl, by
          rcases Int.lt_or_le 24 (wd * ht) with h | h
          · exact h
          · exact absurd ⟨h1, h2, h⟩ hc⟩)
end Go.Proofs.Ytkffpipcjdhbaaa
