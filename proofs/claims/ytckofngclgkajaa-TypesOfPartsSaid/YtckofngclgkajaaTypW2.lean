/- The walk of TypesOfParts. -/
import Derived.Test.YtckofngclgkajaaTypW1
import Derived.Test.YtckofngclgkajaaTypMath2
namespace Go.Proofs.Ytckofngclgkajaa
set_option maxRecDepth 100000
open Go.RowKit

theorem of_cases {xs : List (Int × Int)} {ks : List Int} {b : Bool} {k f : Int} (h : OfSays xs ks b k f) : f ≠ 0 ∨ (f = 0 ∧ okT xs ks = true ∧ ∃ x : Ex, x.flat = xs ∧ x.wf ∧ x.args ks.length ∧ k = x.kind ks b ∧ x.kind ks b ≠ 0) := by
  rcases h with ⟨h, rfl, rfl⟩ | ⟨h, x, hx, hw, ha, rfl, rfl⟩
  · exact .inl (by decide)
  · by_cases h0 : x.kind ks b = 0
    · rw [h0]
      exact .inl (by decide)
    · unfold outK
      rw [if_neg h0]
      exact .inr ⟨rfl, h, x, hx, hw, ha, rfl, h0⟩
/-- what the walk of TypesOfParts needs of each operand -/
def PartOk (W : World) (g o c n : Nat) (ka : Option Addr) (kc m : Nat) (b : Bool) (i : Nat) : Prop := ∃ (q r : Nat) (ys : List (Int × Int)) (j : Int), q ≤ r ∧ r ≤ c ∧ q < n ∧ r - q = ys.length ∧ ys.length ≤ 1000 ∧ 1 ≤ j ∧ j ≤ 3 ∧
  (∀ w, Below W.heap.size W w → LinksAt w (some ⟨g, o + q * 2, none⟩) ys) ∧
  (∀ w, Below W.heap.size W w → Calls Try.prog 22 #[.slice (some ⟨g, o, none⟩) n c, .int .i64 0, .int .i64 (i : Int)] w fun e w' => e = .returned (.int .i64 (q : Int)) ∧ Below w.heap.size w w') ∧
  (∀ w, Below W.heap.size W w → Calls Try.prog 23 #[.slice (some ⟨g, o, none⟩) n c, .int .i64 (q : Int)] w fun e w' => e = .returned (.int .i64 (r : Int)) ∧ Below w.heap.size w w') ∧
  (∀ w B a' c', Below W.heap.size W w → OwnT B w (.slice a' ys.length c') ys → Calls Try.prog 13 #[.slice a' ys.length c', .slice ka m kc, .bool b] w fun e w' => e = .returned (.tuple #[.int .i64 j, .int .i64 0]) ∧ Below w.heap.size w w')
theorem part_ok {W : World} {g o c : Nat} {xs : List (Int × Int)} {ka : Option Addr} {kc : Nat} {ks : List Int} {b : Bool} {i : Nat} {x : Ex} (hX : LinksAt W (some ⟨g, o, none⟩) xs) (hK : IntsAt W ka ks) (hc : xs.length ≤ c) (hl : xs.length ≤ 250) (hx : x.flat = xs) (hw : x.wf) (ha : x.args ks.length) (hok : okT xs ks = true) (h0 : x.kind ks b ≠ 0) (hi : (i : Int) < arF x.top.1) :
    PartOk W g o c xs.length ka kc ks.length (b || aggF x.top.1) i := by
  subst hx
  obtain ⟨q, y, hk⟩ := kid_at hw ha hok h0 i hi
  obtain ⟨hs, h1, h3⟩ := hk.says
  have hle := hk.sits.le
  have hlt := hk.sits.lt
  have hpart : (x.flat.drop q).take y.flat.length = y.flat := by
    obtain ⟨r, h⟩ := hk.sits
    rw [h, List.take_left]
  have hfit : ∀ t ∈ y.flat, I64 t.1 ∧ I64 t.2 := fun t ht => by
    rw [← hpart] at ht
    exact hX.fits t (List.mem_of_mem_drop (List.mem_of_mem_take ht))
  refine ⟨q, q + y.flat.length, y.flat, y.kind ks (b || aggF x.top.1), by omega, by omega, hlt, by omega, by omega, h1, h3, fun w hb => ?_, fun w hb => ?_, fun w hb => ?_, fun w B a' c' hb O => ?_⟩
  · have := LinksAt.part (hX.below hb) (p := q) (m := y.flat.length) hle
    rwa [hpart] at this
  · have := operandR_any (some ⟨g, o, none⟩) c x.flat 0 (i : Int) w (hX.below hb) (by omega)
    rwa [hk.opd] at this
  · have := endR_any (some ⟨g, o, none⟩) c x.flat q w (hX.below hb) (by omega)
    rwa [hk.sits.end_ hk.wf] at this
  · exact ofP_any a' c' y.flat ka kc ks _ w (O.links hfit) (hK.below hb) (by omega) O.fits7 hs
set_option maxHeartbeats 8000000 in
theorem typesParts_walk (W : World) (a : Option Addr) (c : Nat) (xs : List (Int × Int)) (hX : LinksAt W a xs) (hcap : xs.length ≤ c) (ka : Option Addr) (kc : Nat) (ks : List Int) (hK : IntsAt W ka ks) (b : Bool) :
    Calls Try.prog 5 #[.slice a xs.length c, .slice ka ks.length kc, .bool b] W fun e W' => e = .returned (.bool true) ∧ Below W.heap.size W W' := by
  have HA := Lib.hid (fun w => awake7_any w)
  have HLE := Lib.hid (fun W => lightE_any a xs.length c W)
  by_cases h250 : xs.length ≤ 250
  case neg =>
    rw [decide_eq_false h250] at HLE
    clear hX hK hcap
    generalize xs.length = n at *
    generalize ks.length = m at *
    go_enter Try.func5, Try.ntmps5
    go_wp2_with (first | (go_at_call 11; refine (HLE.out _).mono ?_; rintro e w0 ⟨rfl, rfl⟩) | (go_at_call 12; refine (HA.out _).mono ?_; rintro e w1 ⟨rfl, hb⟩))
    go_ret
    exact ⟨rfl, hb⟩
  rw [decide_eq_true h250] at HLE
  by_cases h10 : 10 < ks.length
  · have d : (10 : Int) < (ks.length : Int) := by omega
    clear hX hK h10 hcap
    generalize xs.length = n at *
    generalize ks.length = m at *
    go_enter Try.func5, Try.ntmps5
    go_wp2_with (first | (go_at_call 11; refine (HLE.out _).mono ?_; rintro e w0 ⟨rfl, rfl⟩) | (go_at_call 12; refine (HA.out _).mono ?_; rintro e w1 ⟨rfl, hb⟩))
    go_ret
    exact ⟨rfl, hb⟩
  have d : decide ((10 : Int) < (ks.length : Int)) = false := by simp; omega
  obtain ⟨k, f, hof⟩ := of_ex xs ks b
  have HP := Lib.hid (fun (w : World) (h : Below W.heap.size W w) => ofP_any a c xs ka kc ks b w (hX.below h) (hK.below h) (by omega) hcap hof)
  have HR := Lib.hid (fun (w : World) (h : Below W.heap.size W w) => ofR_any a c xs ka kc ks b w (hX.below h) (hK.below h) (by omega) hof)
  have b1 : (k != k) = false := by simp
  have b2 : (f != f) = false := by simp
  have b1' : (k == k) = true := by simp
  have b2' : (f == f) = true := by simp
  rcases of_cases hof with hf | ⟨rfl, hok, x, hx, hw, ha, hkx, h0⟩
  · have b3 : (f == 0) = false := by simp; omega
    have b4 : (f != 0) = true := by simp; omega
    clear hX hK h10 hof h250 hcap hf
    generalize xs.length = n at *
    generalize ks.length = m at *
    go_enter Try.func5, Try.ntmps5
    go_wp2_with (first
      | (go_at_call 11; refine (HLE.out _).mono ?_; rintro e w0 ⟨rfl, rfl⟩)
      | (go_at_call 13; refine (HP.out _ (Below.refl _ _)).mono ?_; rintro e w1 ⟨rfl, hb1⟩)
      | (go_at_call 14; refine (HR.out _ hb1).mono ?_; rintro e w2 ⟨rfl, hb2⟩; have hB2 := hb1.trans (hb2.mono hb1.size))
      | (go_at_call 12; refine (HA.out _).mono ?_; rintro e w3 ⟨rfl, hb3⟩; have hB3 := hB2.trans (hb3.mono hB2.size)))
    go_ret
    exact ⟨rfl, hB3⟩
  obtain ⟨r0, hr0⟩ := flat_top x
  have hpos : 0 < xs.length := by rw [← hx, hr0]; simp
  obtain ⟨g, o, rfl, hg, hcl⟩ := hX.row hpos
  have hkr := kind_range (okT_parts hok).2.1 x b ha
  have hk1 : (1 : Int) ≤ k := by omega
  have hk3 : k ≤ 3 := by omega
  have htop : toA xs 0 = x.top.1 := by
    unfold toA
    rw [← hx, hr0]
    rfl
  obtain ⟨op, hop⟩ : ∃ op, op = x.top.1 := ⟨_, rfl⟩
  have HC : Hid (∀ w, Below W.heap.size W w → w.cell? ⟨g, o, none⟩ = some (.int .i64 op)) := Lib.hid (fun w h => by
    have := (h.cell (p := ⟨g, o + 0 * 2, none⟩) hg).trans (hcl 0 hpos).1
    rw [htop, ← hop] at this
    simpa using this)
  have ha0 : 0 ≤ arF op := by
    rw [hop]
    cases x with
    | leaf t => have e : arF t.1 = 0 := hw; show 0 ≤ arF t.1; omega
    | un t a => have e : arF t.1 = 1 := hw.1; show 0 ≤ arF t.1; omega
    | bi t a b => have e : arF t.1 = 2 := hw.1; show 0 ≤ arF t.1; omega
    | cond t c a b => have e : arF t.1 = 3 := hw.1; show 0 ≤ arF t.1; omega
  obtain ⟨n3, hn3⟩ : ∃ n3 : Nat, arF op = (n3 : Int) := ⟨(arF op).toNat, by omega⟩
  have hn33 : n3 ≤ 3 := by have := (arF_le op).2; omega
  have HPt : Hid (∀ i, i < n3 → PartOk W g o c xs.length ka kc ks.length (b || aggF op) i) := Lib.hid (fun i hi => by
    rw [hop]
    exact part_ok hX hK hcap h250 hx hw ha hok (by rw [← hkx] at h0 ⊢; exact h0) (by rw [← hop, hn3]; omega))
  have har := fun W => arityR_any op W
  rw [hn3] at har
  have hag := fun W => aggR_any op W
  have q0 : (0 : Int) < (xs.length : Int) := by omega
  clear hX hK h10 hof h250 hok hx hw ha hkx h0 hr0 hcl hkr htop ha0 hn3 hop hpos hg
  generalize aggF op = ag at *
  generalize xs.length = n at *
  generalize ks.length = m at *
  obtain ⟨inn, hinn⟩ : ∃ inn, inn = (b || ag) := ⟨_, rfl⟩
  rw [← hinn] at HPt
  cases b
  all_goals
    first | rw [Bool.false_or] at hinn | rw [Bool.true_or] at hinn
    subst hinn
    go_enter Try.func5, Try.ntmps5
    go_wp2_with (first
      | (go_at_call 11; refine (HLE.out _).mono ?_; rintro e w0 ⟨rfl, hw0⟩; have hw0' := hw0.symm; subst hw0')
      | (go_at_call 13; refine (HP.out _ (Below.refl _ _)).mono ?_; rintro e w1 ⟨rfl, hb1⟩)
      | (go_at_call 14; refine (HR.out _ hb1).mono ?_; rintro e w2 ⟨rfl, hb2⟩; have hB2 := hb1.trans (hb2.mono hb1.size); have hc2 := HC.out _ hB2)
      | (go_at_call 20; refine (hag _).mono ?_; rintro e w3 ⟨rfl, rfl⟩))
    go_loopw [12] (fun t wr => ∃ i : Nat, t = .int .i64 i ∧ i ≤ n3 ∧ Below W.heap.size W wr) (fun t _ => n3 - (intOf t).toNat)
    case atStart => exact ⟨0, rfl, Nat.zero_le _, hB2⟩
    case round =>
      obtain ⟨i, rfl, hi, hbr⟩ := hrel
      have hcr := HC.out _ hbr
      by_cases hlt : i < n3
      · obtain ⟨q, r, ys, j, hqr, hrc, hqn, hlen, hfew, hj1, hj3, hL, hO, hE, hOf⟩ := HPt.out i hlt
        have HL := Lib.hid hL
        have HO := Lib.hid hO
        have HE := Lib.hid hE
        have HOf := Lib.hid hOf
        have HLn : Hid (r - q = ys.length ∧ ys.length ≤ 1000) := Lib.hid ⟨hlen, hfew⟩
        have s1 : (q : Int) ≤ (r : Int) := by omega
        have s2 : (r : Int) ≤ (c : Int) := by omega
        have s3 : (0 : Int) ≤ (q : Int) := by omega
        have s4 : ¬ c = q := by omega
        have j1 : decide (j < 1) = false := by simp; omega
        have j2 : decide (3 < j) = false := by simp; omega
        have ilt : (i : Int) < (n3 : Int) := by omega
        clear hL hO hE hOf hlen hfew
        rw [← HLn.out.1] at HOf
        go_wp2_with (first
          | (go_at_call 21; refine (har _).mono ?_; rintro e w3 ⟨rfl, rfl⟩)
          | (go_at_call 22; refine (HO.out _ hbr).mono ?_; rintro e w4 ⟨rfl, hb4⟩; have hB4 := hbr.trans (hb4.mono hbr.size))
          | (go_at_call 23; refine (HE.out _ hB4).mono ?_; rintro e w5 ⟨rfl, hb5⟩; have hB5 := hB4.trans (hb5.mono hB4.size))
          | (at_builtin; refine wpList_copyT rfl _ (.tmp 76) rfl (some ⟨g, o + q * 2, none⟩) (c - q) ys (r - q) HLn.out.1 rfl rfl (HL.out _ hB5) (by have := HLn.out.2; omega) ?_; intro a6 c6 w6 O6 hb6; have hB6 := hB5.trans (hb6.mono hB5.size))
          | (go_at_call 13; refine (HOf.out _ _ _ _ hB6 O6).mono ?_; rintro e w7 ⟨rfl, hb7⟩; have hB7 := hB6.trans (hb7.mono hB6.size)))
        go_round
        case rel => exact ⟨i + 1, by go_num, by omega, hB7⟩
        case measure => simp [intOf]; omega
      · obtain rfl : i = n3 := by omega
        go_wp2_with (first
          | (go_at_call 21; refine (har _).mono ?_; rintro e w3 ⟨rfl, rfl⟩)
          | (go_at_call 12; refine (HA.out _).mono ?_; rintro e w8 ⟨rfl, hb8⟩; have hB8 := hbr.trans (hb8.mono hbr.size)))
        go_ret
        exact ⟨rfl, hB8⟩
end Go.Proofs.Ytckofngclgkajaa
