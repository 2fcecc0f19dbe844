/- The walk of ExprIsStable. -/
import Derived.Test.YtokmehjofboflaaGreatDoorExprW3
namespace Go.Proofs.YtokmehjofboflaaGreatDoor
set_option maxRecDepth 100000
open Go.RowKit

theorem parse_cases {T : Bytes} {ns : List Bytes} {x : List (Int × Int) × Nat × Nat} (h : parseF T ns = x) : (x.2.2 ≠ 0 ∧ x.1 = []) ∨ (x.2 = (0, 0) ∧ fairE x.1 ns = true) := by
  subst h
  unfold parseF
  by_cases hg : goodF ns = false
  · rw [if_pos hg]
    exact .inl ⟨by simp, rfl⟩
  rw [if_neg hg]
  cases hs : scanB T with
  | inl y =>
    obtain ⟨p, f⟩ := y
    have := scan_errs hs
    exact .inl ⟨by dsimp only; omega, rfl⟩
  | inr ts =>
    dsimp only
    unfold Env.answer
    by_cases h1 : (envF T ts ns).last.err ≠ 0
    · rw [if_pos h1]
      exact .inl ⟨h1, rfl⟩
    · rw [if_neg h1]
      by_cases h2 : validE (envF T ts ns).out.1 (envF T ts ns).ns.length = false
      · rw [if_pos h2]
        exact .inl ⟨by simp, rfl⟩
      · rw [if_neg h2]
        refine .inr ⟨rfl, ?_⟩
        unfold fairE
        rw [Bool.and_eq_true]
        exact ⟨by simpa using hg, by rw [Bool.not_eq_false] at h2; exact h2⟩
set_option maxHeartbeats 4000000 in
theorem exprIsStable_walk (W : World) (hL6 : Lay6 W) (s : ByteArray) (na : Option Addr) (nc : Nat) (ns : List Bytes) (hN : NamesAt W na ns) (hc : ns.length ≤ nc) :
    Calls Tryz.prog 8 #[.string s, .slice na ns.length nc] W fun e W' => e = .returned (.bool true) ∧ Below W.heap.size W W' := by
  have HA := Lib.hid (fun w (h : Below W.heap.size W w) => awake6_any w (hL6.below h (Nat.le_refl _)))
  have HL := Lib.hid (lightN_any na nc ns W hN)
  have hsz : s.data.toList.length = s.size := by simp
  by_cases hlong : 1000 < s.size
  · have d : (1000 : Int) < (s.size : Int) := by omega
    clear HL hN hc hsz
    generalize ns.length = m at *
    go_enter Tryz.func8, Tryz.ntmps8
    go_wp2_with (go_at_call 10; refine (HA.out _ (Below.refl _ _)).mono ?_; rintro e w1 ⟨rfl, hb⟩)
    go_ret
    exact ⟨rfl, hb⟩
  have d : decide ((1000 : Int) < (s.size : Int)) = false := by simp; omega
  cases hl : lightN ns with
  | false =>
    rw [hl] at HL
    clear hN hc hsz hl
    generalize ns.length = m at *
    go_enter Tryz.func8, Tryz.ntmps8
    go_wp2_with (first | (go_at_call 9; refine HL.out.mono ?_; rintro e w0 ⟨rfl, rfl⟩) | (go_at_call 10; refine (HA.out _ (Below.refl _ _)).mono ?_; rintro e w1 ⟨rfl, hb⟩))
    go_ret
    exact ⟨rfl, hb⟩
  | true =>
    rw [hl] at HL
    have h10 := light_ten hl
    have hfit : Fits6 s.data.toList ns := fits_short (by omega) ns
    have hp0 := parseP_any s.data.toList na nc ns W hN hc h10 hfit hL6.words
    have hr0 := fun (w : World) (h : Below W.heap.size W w) => parseR_any s.data.toList na nc ns w (hN.below h rfl) hc (by omega) hfit
    rw [mkS_data] at hp0 hr0
    have ht : ∀ t ∈ (parseF s.data.toList ns).1, I64 t.1 ∧ I64 t.2 := parse_terms
    obtain ⟨x, hx⟩ : ∃ x, parseF s.data.toList ns = x := ⟨_, rfl⟩
    have hcs := parse_cases hx
    rw [hx] at hp0 hr0 ht
    have HP := Lib.hid hp0
    have HR := Lib.hid hr0
    obtain ⟨xs, pl, f⟩ := x
    dsimp only at hcs ht
    clear hx hp0 hr0 hfit hsz
    rcases hcs with ⟨hf, hn⟩ | ⟨hf, hfe⟩
    · subst hn
      have hf0 : ((f : Int) == 0) = false := by simp; omega
      clear hf ht hN hc hl h10
      generalize ns.length = m at *
      go_enter Tryz.func8, Tryz.ntmps8
      go_wp2_with (first
        | (go_at_call 9; refine HL.out.mono ?_; rintro e w0 ⟨rfl, rfl⟩)
        | (go_at_call 11; refine HP.out.mono ?_; rintro e w1 ⟨⟨a1, c1, rfl, O1⟩, hb1⟩)
        | (go_at_call 12; refine (HR.out _ hb1).mono ?_; rintro e w2 ⟨⟨a2, c2, rfl, O2⟩, hb2⟩; have hB2 := hb1.trans (hb2.mono hb1.size))
        | (go_at_call 10; refine (HA.out _ hB2).mono ?_; rintro e w3 ⟨rfl, hb3⟩; have hB3 := hB2.trans (hb3.mono hB2.size)))
      go_ret
      exact ⟨rfl, hB3⟩
    · injection hf with hf1 hf2
      subst hf1 hf2
      obtain ⟨x, hx⟩ := fair_x hfe
      obtain ⟨t1, t2, t3⟩ := hx.text 0 (by omega)
      have h200 := (valid_few hx.valid).2
      have HT := Lib.hid ht
      have HFm := Lib.hid (fun (a : Option Addr) (c : Nat) (w : World) (h : Below W.heap.size W w) (hX : LinksAt w a xs) (hcap : xs.length ≤ c) => formatP_ok a c xs na nc ns w hX (hN.below h rfl) hc hfe x hx.flat hx.wf hcap (hL6.below h (Nat.le_refl _)))
      have HB := Lib.hid (fun (w : World) (h : Below W.heap.size W w) => readP_cap (T := x.text ns) na nc w (hN.below h rfl) hc h10 t1 t3 (hL6.below h (Nat.le_refl _)))
      have HS := Lib.hid (fun (a a' : Option Addr) (c c' : Nat) (w : World) (h1 : LinksAt w a xs) (h2 : LinksAt w a' xs) => sameR_any a a' c c' xs xs w h1 h2 (by omega) (by omega))
      have heq := mkS_same (x.text ns)
      clear hN hc hl h10 hfe hx t1 t2 t3 h200 ht HR
      generalize mkS (x.text ns) = z at *
      generalize ns.length = m at *
      go_enter Tryz.func8, Tryz.ntmps8
      go_wp2_with (first
        | (go_at_call 9; refine HL.out.mono ?_; rintro e w0 ⟨rfl, rfl⟩)
        | (go_at_call 11; first
            | ((with_reducible refine (HB.out _ hB2).mono ?_); rintro e w3 ⟨⟨a3, c3, rfl, L3, C3⟩, hb3⟩; have hB3 := hB2.trans (hb3.mono hB2.size))
            | (refine HP.out.mono ?_; rintro e w1 ⟨⟨a1, c1, rfl, O1⟩, hb1⟩; have L1 := O1.links HT.out; have C1 := own_cap O1))
        | (go_at_call 15; first
            | ((with_reducible refine (HFm.out _ _ _ hB3 L3 C3).mono ?_); rintro e w4 ⟨rfl, hb4⟩; have hB4 := hB3.trans (hb4.mono hB3.size))
            | ((with_reducible refine (HFm.out _ _ _ hb1 L1 C1).mono ?_); rintro e w2 ⟨rfl, hb2⟩; have hB2 := hb1.trans (hb2.mono hb1.size)))
        | (go_at_call 10; refine (HA.out _ hB4).mono ?_; rintro e w5 ⟨rfl, hb5⟩; have hB5 := hB4.trans (hb5.mono hB4.size))
        | (go_at_call 13; refine (HS.out _ _ _ _ _ ((((L1.below hb2).below hb3).below hb4).below hb5) ((L3.below hb4).below hb5)).mono ?_; rintro e w6 ⟨rfl, hb6⟩; have hB6 := hB5.trans (hb6.mono hB5.size)))
      go_ret
      exact ⟨rfl, hB6⟩
end Go.Proofs.YtokmehjofboflaaGreatDoor
