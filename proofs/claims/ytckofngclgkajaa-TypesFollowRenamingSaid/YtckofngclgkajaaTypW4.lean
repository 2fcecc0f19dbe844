/- The walk of TypesIgnoreNumbers: the law. -/
import Derived.Test.YtckofngclgkajaaTypW3
namespace Go.Proofs.Ytckofngclgkajaa
set_option maxRecDepth 100000
open Go.RowKit

set_option maxHeartbeats 8000000 in
theorem typesNumbers_walk (W : World) (a : Option Addr) (c : Nat) (xs : List (Int × Int)) (hX : LinksAt W a xs) (hcap : xs.length ≤ c) (ka : Option Addr) (kc : Nat) (ks : List Int) (hK : IntsAt W ka ks) (b : Bool) (y : Int) (h64 : I64 y) :
    Calls Try.prog 7 #[.slice a xs.length c, .slice ka ks.length kc, .bool b, .int .i64 y] W fun e W' => e = .returned (.bool true) ∧ Below W.heap.size W W' := by
  have HA := Lib.hid (fun w => awake7_any w)
  have HLE := Lib.hid (fun W => lightE_any a xs.length c W)
  by_cases h250 : xs.length ≤ 250
  case neg =>
    rw [decide_eq_false h250] at HLE
    clear hX hK h64
    generalize xs.length = n at *
    generalize ks.length = m at *
    go_enter Try.func7, Try.ntmps7
    go_wp2_with (first | (go_at_call 11; refine (HLE.out _).mono ?_; rintro e w0 ⟨rfl, rfl⟩) | (go_at_call 12; refine (HA.out _).mono ?_; rintro e w1 ⟨rfl, hb⟩))
    go_ret
    exact ⟨rfl, hb⟩
  rw [decide_eq_true h250] at HLE
  by_cases h10 : 10 < ks.length
  · have d : (10 : Int) < (ks.length : Int) := by omega
    clear hX hK h10 h64
    generalize xs.length = n at *
    generalize ks.length = m at *
    go_enter Try.func7, Try.ntmps7
    go_wp2_with (first | (go_at_call 11; refine (HLE.out _).mono ?_; rintro e w0 ⟨rfl, rfl⟩) | (go_at_call 12; refine (HA.out _).mono ?_; rintro e w1 ⟨rfl, hb⟩))
    go_ret
    exact ⟨rfl, hb⟩
  have d : decide ((10 : Int) < (ks.length : Int)) = false := by simp; omega
  obtain ⟨v, hv⟩ : ∃ v, v = y % 1073741825 := ⟨_, rfl⟩
  have v0 : 0 ≤ v := by rw [hv]; exact Int.emod_nonneg y (by omega)
  have v1 : v ≤ 1073741824 := by have := Int.emod_lt_of_pos y (b := (1073741825 : Int)) (by omega); omega
  have HMd := Lib.hid (fun w => modBig_any y w h64)
  rw [← hv] at HMd
  obtain ⟨k, f, hof⟩ := of_ex xs ks b
  have hof2 := of_num v0 v1 hof
  have HP := Lib.hid (fun (w : World) (h : Below W.heap.size W w) => ofP_any a c xs ka kc ks b w (hX.below h) (hK.below h) (by omega) hcap hof)
  have hfit : ∀ t ∈ xs.map (numT v), I64 t.1 ∧ I64 t.2 := fun t ht => by
    obtain ⟨u, hu, rfl⟩ := List.mem_map.1 ht
    unfold numT
    split
    · refine ⟨by unfold I64; dsimp only; omega, ?_⟩
      unfold I64
      dsimp only
      omega
    · exact hX.fits u hu
  have HQ : Hid (∀ (w : World) (B : Nat) (a' : Option Addr) (c' : Nat), Below W.heap.size W w → OwnT B w (.slice a' xs.length c') (xs.map (numT v)) → Calls Try.prog 13 #[.slice a' xs.length c', .slice ka ks.length kc, .bool b] w fun e w' => e = .returned (.tuple #[.int .i64 k, .int .i64 f]) ∧ Below w.heap.size w w') := Lib.hid (fun w B a' c' h O => by
    have := ofP_any a' c' (xs.map (numT v)) ka kc ks b w (O.links hfit) (hK.below h) (by rw [List.length_map]; omega) O.fits7 hof2
    rwa [List.length_map] at this)
  have b1 : (k == k) = true := by simp
  have b2 : (f == f) = true := by simp
  obtain ⟨n, hn⟩ : ∃ n, n = xs.length := ⟨_, rfl⟩
  have HN := Lib.hid hn
  have HX := Lib.hid hX
  have hn2 : n ≤ 250 := by omega
  rw [← hn] at HLE HP HQ ⊢
  clear hX hK h10 hof hof2 h250 hfit h64 hv hn
  generalize ks.length = m at *
  go_enter Try.func7, Try.ntmps7
  go_wp2_with (first
    | (go_at_call 11; refine (HLE.out _).mono ?_; rintro e w0 ⟨rfl, hw0⟩; have hw0' := hw0.symm; subst hw0')
    | (at_builtin; refine wpList_copyT rfl _ (.tmp 24) rfl a c xs n HN.out rfl rfl HX.out (by rw [← HN.out]; omega) ?_; intro a1 c1 w2 O2 hb2))
  go_loopw [10] (fun t wr => ∃ q : Nat, t = .int .i64 q ∧ q ≤ n ∧ OwnT W.heap.size wr (.slice a1 n c1) (turnS (numT v) xs q) ∧ Below W.heap.size W wr) (fun t _ => n - (intOf t).toNat)
  case atStart => exact ⟨0, rfl, Nat.zero_le _, by rw [turnS_zero]; exact O2, hb2⟩
  case round =>
    obtain ⟨q, rfl, hq, hO, hbr⟩ := hrel
    have HO := Lib.hid hO
    have HBr := Lib.hid hbr
    clear O2 hb2
    by_cases hlt : q < n
    · obtain ⟨a', c', e, _, hg⟩ := hO.shape
      rw [turnS_len] at hg e
      injection e with e1 e2 e3
      subst e1 e3
      obtain ⟨g, rfl, hgw, hgl⟩ := hg (by rw [← HN.out]; omega)
      have hql : q < xs.length := by rw [← HN.out]; exact hlt
      obtain ⟨t0, t1, t2⟩ := hO.cells (i := q) (by rw [turnS_len]; exact hql)
      have hq0 : (0 : Int) ≤ (q : Int) := by omega
      have hqi : (q : Int) < (n : Int) := by omega
      have hset := turnS_set (F := numT v) hql
      have hskip := turnS_skip (F := numT v) hql
      have hat := turnS_at (F := numT v) hql
      have hst := hO.stored q v
      rw [hat.1] at t0 hst
      rw [hat.2] at t1
      obtain ⟨op, hop⟩ : ∃ op, toA xs q = op := ⟨_, rfl⟩
      obtain ⟨x, hx⟩ : ∃ x, wtA xs q = x := ⟨_, rfl⟩
      rw [hop] at t0 hset hskip hst
      rw [hx] at t1 hset hskip
      clear hat hop hx hg e2
      by_cases hN : op = 1 ∧ 0 ≤ x ∧ x ≤ 1073741824
      · obtain ⟨rfl, x0, x1⟩ := hN
        have en : numT v (1, x) = (1, v) := if_pos ⟨rfl, x0, x1⟩
        rw [en] at hset
        rw [hset] at hst
        have HST := Lib.hid hst
        have HBS := Lib.hid (hbr.setCell (p := ⟨g, q * 2 + 1, none⟩) hgw (.int .i64 v))
        have d0 : decide (x ≥ 0) = true := decide_eq_true x0
        have d1 : decide (x ≤ 1073741824) = true := decide_eq_true x1
        clear hset hskip hst hO hbr en
        go_wp2_with (go_at_call 24; refine (HMd.out _).mono ?_; rintro e w5 ⟨rfl, rfl⟩)
        go_roundw
        case rel => exact ⟨q + 1, by go_num, by omega, HST.out, HBS.out⟩
        case measure => simp [intOf]; omega
      · have hs2 := hskip (if_neg hN)
        have HST : Hid (OwnT W.heap.size wr (.slice (some ⟨g, 0, none⟩) n c1) (turnS (numT v) xs (q + 1))) := Lib.hid (by rw [hs2]; exact hO)
        clear hset hskip hst hO hs2 HO
        by_cases p1 : op = 1
        · subst p1
          by_cases p2 : 0 ≤ x
          · have p3 : ¬ x ≤ 1073741824 := fun h => hN ⟨rfl, p2, h⟩
            have d0 : decide (x ≥ 0) = true := decide_eq_true p2
            have d1 : decide (x ≤ 1073741824) = false := decide_eq_false p3
            clear hN hbr
            go_wp2
            go_roundw
            case rel => exact ⟨q + 1, by go_num, by omega, HST.out, HBr.out⟩
            case measure => simp [intOf]; omega
          · have d0 : decide (x ≥ 0) = false := decide_eq_false p2
            clear hN hbr
            go_wp2
            go_roundw
            case rel => exact ⟨q + 1, by go_num, by omega, HST.out, HBr.out⟩
            case measure => simp [intOf]; omega
        · have d0 : (op == 1) = false := by simpa using p1
          clear hN hbr
          go_wp2
          go_roundw
          case rel => exact ⟨q + 1, by go_num, by omega, HST.out, HBr.out⟩
          case measure => simp [intOf]; omega
    · obtain rfl : q = n := by omega
      have hfin := hO
      rw [HN.out, turnS_all, ← HN.out] at hfin
      have HFin := Lib.hid hfin
      clear hfin hO HO
      go_wp2_with (first
        | (go_at_call 13; first
            | ((have _ := hB4); refine (HQ.out _ _ _ _ hB4 (HFin.out.far hb4)).mono ?_; rintro e w5 ⟨rfl, hb5⟩; have hB5 := hB4.trans (hb5.mono hB4.size))
            | (refine (HP.out _ hbr).mono ?_; rintro e w4 ⟨rfl, hb4⟩; have hB4 := hbr.trans (hb4.mono hbr.size)))
        | (go_at_call 12; refine (HA.out _).mono ?_; rintro e w6 ⟨rfl, hb6⟩; have hB6 := hB5.trans (hb6.mono hB5.size)))
      go_ret
      exact ⟨rfl, hB6⟩
end Go.Proofs.Ytckofngclgkajaa
