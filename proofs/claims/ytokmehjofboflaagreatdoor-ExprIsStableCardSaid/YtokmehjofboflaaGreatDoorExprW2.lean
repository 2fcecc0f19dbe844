/- What fair of layer 6's laws answers; the walks of ExprFormats and ExprReadsBack. -/
import Derived.Test.YtokmehjofboflaaGreatDoorExprAwake
namespace Go.Proofs.YtokmehjofboflaaGreatDoor
set_option maxRecDepth 100000
open Go.RowKit

theorem parse_terms {T : Bytes} {ns : List Bytes} : ∀ t ∈ (parseF T ns).1, I64 t.1 ∧ I64 t.2 := by
  intro t ht
  unfold parseF at ht
  by_cases hg : goodF ns = false
  · rw [if_pos hg] at ht
    simp at ht
  · rw [if_neg hg] at ht
    cases hs : scanB T with
    | inl x => rw [hs] at ht; simp at ht
    | inr ts =>
      rw [hs] at ht
      dsimp only at ht
      unfold Env.answer at ht
      split at ht
      · simp at ht
      · split at ht
        · simp at ht
        · have := out_terms (ns := ns) hs (good_few (by simpa using hg)) t ht
          unfold I64
          omega
theorem parse_len {T : Bytes} {ns : List Bytes} (h : Fits6 T ns) : (parseF T ns).1.length ≤ 1000 := by
  unfold parseF
  split
  · simp
  · cases hs : scanB T with
    | inl x => simp
    | inr ts =>
      dsimp only
      unfold Env.answer
      split
      · simp
      · split
        · simp
        · exact h ts hs
set_option maxHeartbeats 4000000 in
theorem exprParses_walk (W : World) (hL6 : Lay6 W) (s : ByteArray) (na : Option Addr) (nc : Nat) (ns : List Bytes) (hN : NamesAt W na ns) (hc : ns.length ≤ nc) :
    Calls Tryz.prog 3 #[.string s, .slice na ns.length nc] W fun e W' => e = .returned (.bool true) ∧ Below W.heap.size W W' := by
  have HA := Lib.hid (fun w (h : Below W.heap.size W w) => awake6_any w (hL6.below h (Nat.le_refl _)))
  have HL := Lib.hid (lightN_any na nc ns W hN)
  have hsz : s.data.toList.length = s.size := by simp
  by_cases hlong : 1000 < s.size
  · have d : (1000 : Int) < (s.size : Int) := by omega
    clear HL hN hc hsz
    generalize ns.length = m at *
    go_enter Tryz.func3, Tryz.ntmps3
    go_wp2_with (go_at_call 10; refine (HA.out _ (Below.refl _ _)).mono ?_; rintro e w1 ⟨rfl, hb⟩)
    go_ret
    exact ⟨rfl, hb⟩
  have d : decide ((1000 : Int) < (s.size : Int)) = false := by simp; omega
  cases hl : lightN ns with
  | false =>
    rw [hl] at HL
    clear hN hc hsz hl
    generalize ns.length = m at *
    go_enter Tryz.func3, Tryz.ntmps3
    go_wp2_with (first | (go_at_call 9; refine HL.out.mono ?_; rintro e w0 ⟨rfl, rfl⟩) | (go_at_call 10; refine (HA.out _ (Below.refl _ _)).mono ?_; rintro e w1 ⟨rfl, hb⟩))
    go_ret
    exact ⟨rfl, hb⟩
  | true =>
    rw [hl] at HL
    have h10 : ns.length ≤ 10 := by
      unfold lightN at hl
      rw [Bool.and_eq_true, decide_eq_true_eq] at hl
      exact hl.1
    have hfit : Fits6 s.data.toList ns := fits_short (by omega) ns
    have HP := Lib.hid (fun (w : World) (h : Below W.heap.size W w) => parseP_any s.data.toList na nc ns w (hN.below h rfl) hc h10 hfit (hL6.below h (Nat.le_refl _)).words)
    have HR := Lib.hid (fun (w : World) (h : Below W.heap.size W w) => parseR_any s.data.toList na nc ns w (hN.below h rfl) hc (by omega) hfit)
    rw [mkS_data] at HP HR
    have ht : ∀ t ∈ (parseF s.data.toList ns).1, I64 t.1 ∧ I64 t.2 := parse_terms
    have hln := parse_len hfit
    obtain ⟨x, hx⟩ : ∃ x, x = parseF s.data.toList ns := ⟨_, rfl⟩
    rw [← hx] at HP HR ht hln
    have HT := Lib.hid ht
    have HS := Lib.hid (fun (a a' : Option Addr) (c c' : Nat) (w : World) (h1 : LinksAt w a x.1) (h2 : LinksAt w a' x.1) => sameR_any a a' c c' x.1 x.1 w h1 h2 (by omega) (by omega))
    clear hx hN hc hfit hl ht h10 hsz
    generalize ns.length = m at *
    go_enter Tryz.func3, Tryz.ntmps3
    go_wp2_with (first
      | (go_at_call 9; refine HL.out.mono ?_; rintro e w0 ⟨rfl, rfl⟩)
      | (go_at_call 11; refine (HP.out _ (Below.refl _ _)).mono ?_; rintro e w1 ⟨⟨a1, c1, rfl, O1⟩, hb1⟩)
      | (go_at_call 12; refine (HR.out _ hb1).mono ?_; rintro e w2 ⟨⟨a2, c2, rfl, O2⟩, hb2⟩; have hB2 := hb1.trans (hb2.mono hb1.size))
      | (go_at_call 10; refine (HA.out _ hB2).mono ?_; rintro e w3 ⟨rfl, hb3⟩; have hB3 := hB2.trans (hb3.mono hB2.size))
      | (go_at_call 13; refine (HS.out _ _ _ _ _ (((O1.links HT.out).below hb2).below hb3) ((O2.links HT.out).below hb3)).mono ?_; rintro e w4 ⟨rfl, hb4⟩; have hB4 := hB3.trans (hb4.mono hB3.size)))
    go_ret
    exact ⟨rfl, hB4⟩
end Go.Proofs.YtokmehjofboflaaGreatDoor
namespace Go.Proofs.YtokmehjofboflaaGreatDoor
set_option maxRecDepth 100000
open Go.RowKit

theorem light_ten {ns : List Bytes} (h : lightN ns = true) : ns.length ≤ 10 := by
  unfold lightN at h
  rw [Bool.and_eq_true, decide_eq_true_eq] at h
  exact h.1
set_option maxHeartbeats 2000000 in
theorem fair6_any (a : Option Addr) (c : Nat) (xs : List (Int × Int)) (na : Option Addr) (nc : Nat) (ns : List Bytes) (w : World) (hX : LinksAt w a xs) (hN : NamesAt w na ns) (hc : ns.length ≤ nc) :
    Calls Tryz.prog 17 #[.slice a xs.length c, .slice na ns.length nc] w fun e w' => e = .returned (.bool (decide (xs.length ≤ 250) && (lightN ns && fairE xs ns))) ∧ Below w.heap.size w w' := by
  have HLE := Lib.hid (fun W => lightE_any a xs.length c W)
  have HL := Lib.hid (lightN_any na nc ns w hN)
  by_cases h250 : xs.length ≤ 250
  case neg =>
    rw [decide_eq_false h250] at HLE ⊢
    rw [Bool.false_and]
    clear hX hN hc HL
    generalize xs.length = k at *
    generalize ns.length = m at *
    go_enter Tryz.func17, Tryz.ntmps17
    go_wp2_with (go_at_call 14; refine (HLE.out _).mono ?_; rintro e w0 ⟨rfl, rfl⟩)
    go_ret
    exact ⟨rfl, Below.refl _ _⟩
  rw [decide_eq_true h250] at HLE ⊢
  rw [Bool.true_and]
  cases hl : lightN ns with
  | false =>
    rw [hl] at HL
    rw [Bool.false_and]
    clear hX hN hc hl
    generalize xs.length = k at *
    generalize ns.length = m at *
    go_enter Tryz.func17, Tryz.ntmps17
    go_wp2_with (first | (go_at_call 14; refine (HLE.out _).mono ?_; rintro e w0 ⟨rfl, rfl⟩) | (go_at_call 9; refine HL.out.mono ?_; rintro e w1 ⟨rfl, rfl⟩))
    go_ret
    exact ⟨rfl, Below.refl _ _⟩
  | true =>
  rw [hl] at HL
  rw [Bool.true_and]
  have h10 := light_ten hl
  have HG := Lib.hid (goodR_any na nc ns w hN hc (by omega))
  have HV := Lib.hid (fun W (h : Below w.heap.size w W) => validR_any a c xs ns.length W (hX.below h) (by omega))
  unfold fairE
  clear hX hN hc hl h10 h250
  cases hg : goodF ns with
  | false =>
    rw [hg] at HG
    rw [Bool.false_and]
    clear HV hg
    generalize xs.length = k at *
    generalize ns.length = m at *
    go_enter Tryz.func17, Tryz.ntmps17
    go_wp2_with (first | (go_at_call 14; refine (HLE.out _).mono ?_; rintro e w0 ⟨rfl, rfl⟩) | (go_at_call 9; refine HL.out.mono ?_; rintro e w1 ⟨rfl, rfl⟩) | (go_at_call 23; refine HG.out.mono ?_; rintro e w2 ⟨rfl, hb⟩))
    go_ret
    exact ⟨rfl, hb⟩
  | true =>
    rw [hg] at HG
    rw [Bool.true_and]
    clear hg
    generalize validE xs ns.length = v at *
    generalize xs.length = k at *
    generalize ns.length = m at *
    go_enter Tryz.func17, Tryz.ntmps17
    go_wp2_with (first | (go_at_call 14; refine (HLE.out _).mono ?_; rintro e w0 ⟨rfl, rfl⟩) | (go_at_call 9; refine HL.out.mono ?_; rintro e w1 ⟨rfl, rfl⟩) | (go_at_call 23; refine HG.out.mono ?_; rintro e w2 ⟨rfl, hb⟩) | (go_at_call 27; refine (HV.out _ hb).mono ?_; rintro e w3 ⟨rfl, hb3⟩))
    go_ret
    exact ⟨rfl, hb.trans (hb3.mono hb.size)⟩
/-- what Format answers, as one -/
def fmtSays (xs : List (Int × Int)) (ns : List Bytes) (T : Bytes) (f : Nat) : Prop := (fairE xs ns = false ∧ T = [] ∧ f = 7) ∨ (fairE xs ns = true ∧ f = 0 ∧ ∃ x : Ex, x.flat = xs ∧ x.wf ∧ T = x.text ns)
theorem fmt_ex (xs : List (Int × Int)) (ns : List Bytes) : ∃ T f, fmtSays xs ns T f := by
  cases h : fairE xs ns with
  | false => exact ⟨[], 7, .inl ⟨h, rfl, rfl⟩⟩
  | true =>
    obtain ⟨x, h1, h2, _⟩ := fair_tree h
    exact ⟨_, 0, .inr ⟨h, rfl, x, h1, h2, rfl⟩⟩
theorem formatP_any {T : Bytes} {f : Nat} (a : Option Addr) (c : Nat) (xs : List (Int × Int)) (na : Option Addr) (nc : Nat) (ns : List Bytes) (w : World) (hX : LinksAt w a xs) (hN : NamesAt w na ns) (hc : ns.length ≤ nc) (hn : ns.length ≤ 10) (hx : xs.length ≤ 250) (h : fmtSays xs ns T f) (hcap : xs.length ≤ c) (hL6 : Lay6 w) :
    Calls Tryz.prog 15 #[.slice a xs.length c, .slice na ns.length nc] w fun e w' => e = .returned (.tuple #[.string (mkS T), .int .i64 (f : Int)]) ∧ Below w.heap.size w w' := by
  rcases h with ⟨h, rfl, rfl⟩ | ⟨h, rfl, x, h1, h2, rfl⟩
  · exact formatP_bad a c xs na nc ns w hX hN hc hn hx h
  · exact formatP_ok a c xs na nc ns w hX hN hc h x h1 h2 hcap hL6
theorem formatR_any {T : Bytes} {f : Nat} (a : Option Addr) (c : Nat) (xs : List (Int × Int)) (na : Option Addr) (nc : Nat) (ns : List Bytes) (w : World) (hX : LinksAt w a xs) (hN : NamesAt w na ns) (hc : ns.length ≤ nc) (hn : ns.length ≤ 10) (hx : xs.length ≤ 250) (h : fmtSays xs ns T f) :
    Calls Tryz.prog 16 #[.slice a xs.length c, .slice na ns.length nc] w fun e w' => e = .returned (.tuple #[.string (mkS T), .int .i64 (f : Int)]) ∧ Below w.heap.size w w' := by
  rcases h with ⟨h, rfl, rfl⟩ | ⟨h, rfl, x, h1, h2, rfl⟩
  · exact formatR_bad a c xs na nc ns w hX hN hc (by omega) (by omega) h
  · exact formatR_ok a c xs na nc ns w hX hN hc h x h1 h2
set_option maxHeartbeats 4000000 in
theorem exprFormats_walk (W : World) (hL6 : Lay6 W) (a : Option Addr) (c : Nat) (xs : List (Int × Int)) (hX : LinksAt W a xs) (hcap : xs.length ≤ c) (na : Option Addr) (nc : Nat) (ns : List Bytes) (hN : NamesAt W na ns) (hc : ns.length ≤ nc) :
    Calls Tryz.prog 4 #[.slice a xs.length c, .slice na ns.length nc] W fun e W' => e = .returned (.bool true) ∧ Below W.heap.size W W' := by
  have HA := Lib.hid (fun w (h : Below W.heap.size W w) => awake6_any w (hL6.below h (Nat.le_refl _)))
  have HLE := Lib.hid (fun W => lightE_any a xs.length c W)
  have HL := Lib.hid (lightN_any na nc ns W hN)
  by_cases h250 : xs.length ≤ 250
  case neg =>
    rw [decide_eq_false h250] at HLE
    clear hX hN hc HL hcap
    generalize xs.length = k at *
    generalize ns.length = m at *
    go_enter Tryz.func4, Tryz.ntmps4
    go_wp2_with (first | (go_at_call 14; refine (HLE.out _).mono ?_; rintro e w0 ⟨rfl, rfl⟩) | (go_at_call 10; refine (HA.out _ (Below.refl _ _)).mono ?_; rintro e w1 ⟨rfl, hb⟩))
    go_ret
    exact ⟨rfl, hb⟩
  rw [decide_eq_true h250] at HLE
  cases hl : lightN ns with
  | false =>
    rw [hl] at HL
    clear hX hN hc hl hcap
    generalize xs.length = k at *
    generalize ns.length = m at *
    go_enter Tryz.func4, Tryz.ntmps4
    go_wp2_with (first | (go_at_call 14; refine (HLE.out _).mono ?_; rintro e w0 ⟨rfl, rfl⟩) | (go_at_call 9; refine HL.out.mono ?_; rintro e w2 ⟨rfl, rfl⟩) | (go_at_call 10; refine (HA.out _ (Below.refl _ _)).mono ?_; rintro e w1 ⟨rfl, hb⟩))
    go_ret
    exact ⟨rfl, hb⟩
  | true =>
    rw [hl] at HL
    have h10 := light_ten hl
    obtain ⟨T, f, hT⟩ := fmt_ex xs ns
    have HP := Lib.hid (fun (w : World) (h : Below W.heap.size W w) => formatP_any a c xs na nc ns w (hX.below h) (hN.below h rfl) hc h10 h250 hT hcap (hL6.below h (Nat.le_refl _)))
    have HR := Lib.hid (fun (w : World) (h : Below W.heap.size W w) => formatR_any a c xs na nc ns w (hX.below h) (hN.below h rfl) hc h10 h250 hT)
    have heq : ((mkS T).toList == (mkS T).toList) = true := mkS_same T
    clear hX hN hc hl h10 h250 hT hcap
    generalize mkS T = z at *
    generalize xs.length = k at *
    generalize ns.length = m at *
    go_enter Tryz.func4, Tryz.ntmps4
    go_wp2_with (first
      | (go_at_call 14; refine (HLE.out _).mono ?_; rintro e w0 ⟨rfl, rfl⟩)
      | (go_at_call 9; refine HL.out.mono ?_; rintro e w2 ⟨rfl, rfl⟩)
      | (go_at_call 15; refine (HP.out _ (Below.refl _ _)).mono ?_; rintro e w3 ⟨rfl, hb3⟩)
      | (go_at_call 16; refine (HR.out _ hb3).mono ?_; rintro e w4 ⟨rfl, hb4⟩; have hB4 := hb3.trans (hb4.mono hb3.size))
      | (go_at_call 10; refine (HA.out _ hB4).mono ?_; rintro e w5 ⟨rfl, hb5⟩; have hB5 := hB4.trans (hb5.mono hB4.size)))
    go_ret
    exact ⟨rfl, hB5⟩
end Go.Proofs.YtokmehjofboflaaGreatDoor
