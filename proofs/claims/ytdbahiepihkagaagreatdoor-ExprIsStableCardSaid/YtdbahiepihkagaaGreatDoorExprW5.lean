/- The walk of ExprIgnoresBrackets. -/
import Derived.Test.YtdbahiepihkagaaGreatDoorLawE
namespace Go.Proofs.YtdbahiepihkagaaGreatDoor
set_option maxRecDepth 100000
open Go.RowKit

theorem light_ten {ns : List Bytes} (h : lightN ns = true) : ns.length ≤ 10 := by
  unfold lightN at h
  rw [Bool.and_eq_true, decide_eq_true_eq] at h
  exact h.1
set_option maxHeartbeats 2000000 in
theorem fair6_any (a : Option Addr) (c : Nat) (xs : List (Int × Int)) (na : Option Addr) (nc : Nat) (ns : List Bytes) (w : World) (hX : LinksAt w a xs) (hN : NamesAt w na ns) (hc : ns.length ≤ nc) :
    Calls Tryz.prog 22 #[.slice a xs.length c, .slice na ns.length nc] w fun e w' => e = .returned (.bool (decide (xs.length ≤ 250) && (lightN ns && fairE xs ns))) ∧ Below w.heap.size w w' := by
  have HLE := Lib.hid (fun W => lightE_any a xs.length c W)
  have HL := Lib.hid (lightN_any na nc ns w hN)
  by_cases h250 : xs.length ≤ 250
  case neg =>
    rw [decide_eq_false h250] at HLE ⊢
    rw [Bool.false_and]
    clear hX hN hc HL
    generalize xs.length = k at *
    generalize ns.length = m at *
    go_enter Tryz.func22, Tryz.ntmps22
    go_wp2_with (go_at_call 19; refine (HLE.out _).mono ?_; rintro e w0 ⟨rfl, rfl⟩)
    go_ret
    exact ⟨rfl, Below.refl _ _⟩
  rw [decide_eq_true h250] at HLE ⊢
  rw [Bool.true_and]
  cases hl : lightN ns with
  | false =>
    rw [hl] at HL
    rw [Bool.false_and]
    clear hX hN hc hl
    generalize xs.length = k at *
    generalize ns.length = m at *
    go_enter Tryz.func22, Tryz.ntmps22
    go_wp2_with (first | (go_at_call 19; refine (HLE.out _).mono ?_; rintro e w0 ⟨rfl, rfl⟩) | (go_at_call 14; refine HL.out.mono ?_; rintro e w1 ⟨rfl, rfl⟩))
    go_ret
    exact ⟨rfl, Below.refl _ _⟩
  | true =>
  rw [hl] at HL
  rw [Bool.true_and]
  have h10 := light_ten hl
  have HG := Lib.hid (goodR_any na nc ns w hN hc (by omega))
  have HV := Lib.hid (fun W (h : Below w.heap.size w W) => validR_any a c xs ns.length W (hX.below h) (by omega))
  unfold fairE
  clear hX hN hc hl h10 h250
  cases hg : goodF ns with
  | false =>
    rw [hg] at HG
    rw [Bool.false_and]
    clear HV hg
    generalize xs.length = k at *
    generalize ns.length = m at *
    go_enter Tryz.func22, Tryz.ntmps22
    go_wp2_with (first | (go_at_call 19; refine (HLE.out _).mono ?_; rintro e w0 ⟨rfl, rfl⟩) | (go_at_call 14; refine HL.out.mono ?_; rintro e w1 ⟨rfl, rfl⟩) | (go_at_call 37; refine HG.out.mono ?_; rintro e w2 ⟨rfl, hb⟩))
    go_ret
    exact ⟨rfl, hb⟩
  | true =>
    rw [hg] at HG
    rw [Bool.true_and]
    clear hg
    generalize validE xs ns.length = v at *
    generalize xs.length = k at *
    generalize ns.length = m at *
    go_enter Tryz.func22, Tryz.ntmps22
    go_wp2_with (first | (go_at_call 19; refine (HLE.out _).mono ?_; rintro e w0 ⟨rfl, rfl⟩) | (go_at_call 14; refine HL.out.mono ?_; rintro e w1 ⟨rfl, rfl⟩) | (go_at_call 37; refine HG.out.mono ?_; rintro e w2 ⟨rfl, hb⟩) | (go_at_call 40; refine (HV.out _ hb).mono ?_; rintro e w3 ⟨rfl, hb3⟩))
    go_ret
    exact ⟨rfl, hb.trans (hb3.mono hb.size)⟩
/-- what Format answers, as one -/
def fmtSays (xs : List (Int × Int)) (ns : List Bytes) (T : Bytes) (f : Nat) : Prop := (fairE xs ns = false ∧ T = [] ∧ f = 7) ∨ (fairE xs ns = true ∧ f = 0 ∧ ∃ x : Ex, x.flat = xs ∧ x.wf ∧ T = x.text ns)
theorem fmt_ex (xs : List (Int × Int)) (ns : List Bytes) : ∃ T f, fmtSays xs ns T f := by
  cases h : fairE xs ns with
  | false => exact ⟨[], 7, .inl ⟨h, rfl, rfl⟩⟩
  | true =>
    obtain ⟨x, h1, h2, _⟩ := fair_tree h
    exact ⟨_, 0, .inr ⟨h, rfl, x, h1, h2, rfl⟩⟩
theorem formatP_any {T : Bytes} {f : Nat} (a : Option Addr) (c : Nat) (xs : List (Int × Int)) (na : Option Addr) (nc : Nat) (ns : List Bytes) (w : World) (hX : LinksAt w a xs) (hN : NamesAt w na ns) (hc : ns.length ≤ nc) (hn : ns.length ≤ 10) (hx : xs.length ≤ 250) (h : fmtSays xs ns T f) (hcap : xs.length ≤ c) (hL6 : Lay6 w) :
    Calls Tryz.prog 20 #[.slice a xs.length c, .slice na ns.length nc] w fun e w' => e = .returned (.tuple #[.string (mkS T), .int .i64 (f : Int)]) ∧ Below w.heap.size w w' := by
  rcases h with ⟨h, rfl, rfl⟩ | ⟨h, rfl, x, h1, h2, rfl⟩
  · exact formatP_bad a c xs na nc ns w hX hN hc hn hx h
  · exact formatP_ok a c xs na nc ns w hX hN hc h x h1 h2 hcap hL6
theorem formatR_any {T : Bytes} {f : Nat} (a : Option Addr) (c : Nat) (xs : List (Int × Int)) (na : Option Addr) (nc : Nat) (ns : List Bytes) (w : World) (hX : LinksAt w a xs) (hN : NamesAt w na ns) (hc : ns.length ≤ nc) (hn : ns.length ≤ 10) (hx : xs.length ≤ 250) (h : fmtSays xs ns T f) :
    Calls Tryz.prog 21 #[.slice a xs.length c, .slice na ns.length nc] w fun e w' => e = .returned (.tuple #[.string (mkS T), .int .i64 (f : Int)]) ∧ Below w.heap.size w w' := by
  rcases h with ⟨h, rfl, rfl⟩ | ⟨h, rfl, x, h1, h2, rfl⟩
  · exact formatR_bad a c xs na nc ns w hX hN hc (by omega) (by omega) h
  · exact formatR_ok a c xs na nc ns w hX hN hc h x h1 h2
set_option maxHeartbeats 4000000 in
theorem exprFormats_walk (W : World) (hL6 : Lay6 W) (a : Option Addr) (c : Nat) (xs : List (Int × Int)) (hX : LinksAt W a xs) (hcap : xs.length ≤ c) (na : Option Addr) (nc : Nat) (ns : List Bytes) (hN : NamesAt W na ns) (hc : ns.length ≤ nc) :
    Calls Tryz.prog 4 #[.slice a xs.length c, .slice na ns.length nc] W fun e W' => e = .returned (.bool true) ∧ Below W.heap.size W W' := by
  have HA := Lib.hid (fun w (h : Below W.heap.size W w) => awake6_any w (hL6.below h (Nat.le_refl _)))
  have HLE := Lib.hid (fun W => lightE_any a xs.length c W)
  have HL := Lib.hid (lightN_any na nc ns W hN)
  by_cases h250 : xs.length ≤ 250
  case neg =>
    rw [decide_eq_false h250] at HLE
    clear hX hN hc HL hcap
    generalize xs.length = k at *
    generalize ns.length = m at *
    go_enter Tryz.func4, Tryz.ntmps4
    go_wp2_with (first | (go_at_call 19; refine (HLE.out _).mono ?_; rintro e w0 ⟨rfl, rfl⟩) | (go_at_call 15; refine (HA.out _ (Below.refl _ _)).mono ?_; rintro e w1 ⟨rfl, hb⟩))
    go_ret
    exact ⟨rfl, hb⟩
  rw [decide_eq_true h250] at HLE
  cases hl : lightN ns with
  | false =>
    rw [hl] at HL
    clear hX hN hc hl hcap
    generalize xs.length = k at *
    generalize ns.length = m at *
    go_enter Tryz.func4, Tryz.ntmps4
    go_wp2_with (first | (go_at_call 19; refine (HLE.out _).mono ?_; rintro e w0 ⟨rfl, rfl⟩) | (go_at_call 14; refine HL.out.mono ?_; rintro e w2 ⟨rfl, rfl⟩) | (go_at_call 15; refine (HA.out _ (Below.refl _ _)).mono ?_; rintro e w1 ⟨rfl, hb⟩))
    go_ret
    exact ⟨rfl, hb⟩
  | true =>
    rw [hl] at HL
    have h10 := light_ten hl
    obtain ⟨T, f, hT⟩ := fmt_ex xs ns
    have HP := Lib.hid (fun (w : World) (h : Below W.heap.size W w) => formatP_any a c xs na nc ns w (hX.below h) (hN.below h rfl) hc h10 h250 hT hcap (hL6.below h (Nat.le_refl _)))
    have HR := Lib.hid (fun (w : World) (h : Below W.heap.size W w) => formatR_any a c xs na nc ns w (hX.below h) (hN.below h rfl) hc h10 h250 hT)
    have heq : ((mkS T).toList == (mkS T).toList) = true := mkS_same T
    clear hX hN hc hl h10 h250 hT hcap
    generalize mkS T = z at *
    generalize xs.length = k at *
    generalize ns.length = m at *
    go_enter Tryz.func4, Tryz.ntmps4
    go_wp2_with (first
      | (go_at_call 19; refine (HLE.out _).mono ?_; rintro e w0 ⟨rfl, rfl⟩)
      | (go_at_call 14; refine HL.out.mono ?_; rintro e w2 ⟨rfl, rfl⟩)
      | (go_at_call 20; refine (HP.out _ (Below.refl _ _)).mono ?_; rintro e w3 ⟨rfl, hb3⟩)
      | (go_at_call 21; refine (HR.out _ hb3).mono ?_; rintro e w4 ⟨rfl, hb4⟩; have hB4 := hb3.trans (hb4.mono hb3.size))
      | (go_at_call 15; refine (HA.out _ hB4).mono ?_; rintro e w5 ⟨rfl, hb5⟩; have hB5 := hB4.trans (hb5.mono hB4.size)))
    go_ret
    exact ⟨rfl, hB5⟩
end Go.Proofs.YtdbahiepihkagaaGreatDoor
namespace Go.Proofs.YtdbahiepihkagaaGreatDoor
set_option maxRecDepth 100000
open Go.RowKit

/-- a fair expression: its tree's text is read as itself, with brackets around it too -/
structure FairX (xs : List (Int × Int)) (ns : List Bytes) (x : Ex) : Prop where
  flat : x.flat = xs
  wf : x.wf
  args : x.flat.all (fun t => argB t ns.length) = true
  good : goodF ns = true
  valid : validE xs ns.length = true
theorem fair_x {xs : List (Int × Int)} {ns : List Bytes} (h : fairE xs ns = true) : ∃ x, FairX xs ns x := by
  obtain ⟨x, h1, h2, h3⟩ := fair_tree h
  unfold fairE at h
  rw [Bool.and_eq_true] at h
  exact ⟨x, h1, h2, h3, h.1, h.2⟩
theorem FairX.fair {xs : List (Int × Int)} {ns : List Bytes} {x : Ex} (h : FairX xs ns x) : fairE xs ns = true := by
  unfold fairE
  rw [h.good, h.valid]
  rfl
/-- a written text: what is read of it is not long -/
theorem sized_fits {ns : List Bytes} {lv k : Nat} {T : Bytes} {e : List (Int × Int)} (h : Sized ns lv T e) (h1 : 1 ≤ lv) (h8 : lv ≤ 8) (hk : k ≤ 20) (he : e.length ≤ 200) : Fits6 (around k T) ns := by
  obtain ⟨P, hP, h2, h3⟩ := h
  obtain ⟨Q, q1, q2, q3, q4, q5⟩ := around_ok k (hP.ok _ (calm_some calm_br)) (hP.ok none calm_none) (hP.spell.lift (lv := 1) (by omega) h1 h8)
  rw [hP.text] at q1 q5
  intro ts hs
  rw [← q1] at hs ⊢
  have hsc := scan_lay q2 (by omega) (by omega)
  rw [hsc] at hs
  injection hs with hs
  subst hs
  have hF := env_fair (ns := ns) hsc
  have hw : (envF (textP Q) (layP 0 Q) ns).words = Q.map Prod.fst := by
    rw [← lay_words (L := textP Q) Q 0 rfl]
    unfold Env.words envF
    rw [List.map_map]
    rfl
  have ho : (envF (textP Q) (layP 0 Q) ns).out = (e, ⟨(Q.map Prod.fst).length, 0, 0⟩) := spell_out hF q3 hw
  rw [ho]
  show e.length ≤ 1000
  omega
theorem FairX.text {xs : List (Int × Int)} {ns : List Bytes} {x : Ex} (h : FairX xs ns x) (k : Nat) (hk : k ≤ 20) : parseF (around k (x.text ns)) ns = (xs, 0, 0) ∧ (around k (x.text ns)).length ≤ 6000 ∧ Fits6 (around k (x.text ns)) ns := by
  have hs := text_sized h.good x h.wf h.args
  have hl := lv_range x.top.1
  rw [h.flat] at hs
  have hr := sized_read (k := k) h.good hs hl.1 hl.2 h.valid hk
  exact ⟨hr.1, hr.2, sized_fits hs hl.1 hl.2 hk (valid_few h.valid).2⟩
theorem FairX.full {xs : List (Int × Int)} {ns : List Bytes} {x : Ex} (h : FairX xs ns x) : parseF (x.full ns) ns = (xs, 0, 0) ∧ (x.full ns).length ≤ 6000 ∧ Fits6 (x.full ns) ns := by
  have hs := full_sized h.good x h.wf h.args
  have hl := lv_range x.top.1
  rw [h.flat] at hs
  have hr := sized_read (k := 0) h.good hs hl.1 hl.2 h.valid (by omega)
  exact ⟨hr.1, hr.2, sized_fits (k := 0) hs hl.1 hl.2 (by omega) (valid_few h.valid).2⟩
theorem readP_cap {T : Bytes} {xs : List (Int × Int)} {ns : List Bytes} (na : Option Addr) (nc : Nat) (w : World) (hN : NamesAt w na ns) (hc : ns.length ≤ nc) (hn : ns.length ≤ 10) (h : parseF T ns = (xs, 0, 0)) (hf : Fits6 T ns) (hL6 : Lay6 w) :
    Calls Tryz.prog 16 #[.string (mkS T), .slice na ns.length nc] w fun e w' => (∃ a c, e = .returned (.tuple #[.slice a xs.length c, .int .i64 0, .int .i64 0]) ∧ LinksAt w' a xs ∧ xs.length ≤ c) ∧ Below w.heap.size w w' := by
  have hp := parseP_any T na nc ns w hN hc hn hf hL6.words
  have ht : ∀ t ∈ (parseF T ns).1, I64 t.1 ∧ I64 t.2 := parse_terms
  rw [h] at hp ht
  refine hp.mono ?_
  rintro e w' ⟨⟨a, c, rfl, O⟩, hb⟩
  exact ⟨⟨a, c, rfl, O.links ht, own_cap O⟩, hb⟩
theorem readP_any {T : Bytes} {xs : List (Int × Int)} {ns : List Bytes} (na : Option Addr) (nc : Nat) (w : World) (hN : NamesAt w na ns) (hc : ns.length ≤ nc) (hn : ns.length ≤ 10) (h : parseF T ns = (xs, 0, 0)) (hf : Fits6 T ns) (hL6 : Lay6 w) :
    Calls Tryz.prog 16 #[.string (mkS T), .slice na ns.length nc] w fun e w' => (∃ a c, e = .returned (.tuple #[.slice a xs.length c, .int .i64 0, .int .i64 0]) ∧ LinksAt w' a xs) ∧ Below w.heap.size w w' :=
  (readP_cap na nc w hN hc hn h hf hL6).mono fun _ _ ⟨⟨a, c, h1, h2, _⟩, hb⟩ => ⟨⟨a, c, h1, h2⟩, hb⟩
set_option maxHeartbeats 4000000 in
theorem exprReadsBack_walk (W : World) (hL6 : Lay6 W) (a : Option Addr) (c : Nat) (xs : List (Int × Int)) (hX : LinksAt W a xs) (hcap : xs.length ≤ c) (na : Option Addr) (nc : Nat) (ns : List Bytes) (hN : NamesAt W na ns) (hc : ns.length ≤ nc) :
    Calls Tryz.prog 5 #[.slice a xs.length c, .slice na ns.length nc] W fun e W' => e = .returned (.bool true) ∧ Below W.heap.size W W' := by
  have HA := Lib.hid (fun w (h : Below W.heap.size W w) => awake6_any w (hL6.below h (Nat.le_refl _)))
  have HF := Lib.hid (fair6_any a c xs na nc ns W hX hN hc)
  cases hf : (decide (xs.length ≤ 250) && (lightN ns && fairE xs ns)) with
  | false =>
    rw [hf] at HF
    clear hX hN hc hf hcap
    generalize xs.length = k at *
    generalize ns.length = m at *
    go_enter Tryz.func5, Tryz.ntmps5
    go_wp2_with (first | (go_at_call 22; refine HF.out.mono ?_; rintro e w0 ⟨rfl, hb0⟩) | (go_at_call 15; refine (HA.out _ hb0).mono ?_; rintro e w1 ⟨rfl, hb⟩))
    go_ret
    exact ⟨rfl, hb0.trans (hb.mono hb0.size)⟩
  | true =>
    rw [hf] at HF
    rw [Bool.and_eq_true, Bool.and_eq_true, decide_eq_true_eq] at hf
    obtain ⟨h250, hl, hfe⟩ := hf
    have h10 := light_ten hl
    obtain ⟨x, hx⟩ := fair_x hfe
    obtain ⟨t1, t2, t3⟩ := hx.text 0 (by omega)
    have HP := Lib.hid (fun (w : World) (h : Below W.heap.size W w) => formatP_ok a c xs na nc ns w (hX.below h) (hN.below h rfl) hc hfe x hx.flat hx.wf hcap (hL6.below h (Nat.le_refl _)))
    have HR := Lib.hid (fun (w : World) (h : Below W.heap.size W w) => readP_any (T := x.text ns) na nc w (hN.below h rfl) hc h10 t1 t3 (hL6.below h (Nat.le_refl _)))
    have HS := Lib.hid (fun (a a' : Option Addr) (c c' : Nat) (w : World) (h1 : LinksAt w a xs) (h2 : LinksAt w a' xs) => sameR_any a a' c c' xs xs w h1 h2 (by omega) (by omega))
    have HX := Lib.hid (fun (w : World) (h : Below W.heap.size W w) => hX.below h)
    clear hX hN hc hl h10 h250 hfe hx t1 t2 t3 hcap
    generalize mkS (x.text ns) = z at *
    generalize ns.length = m at *
    go_enter Tryz.func5, Tryz.ntmps5
    go_wp2_with (first
      | (go_at_call 22; refine HF.out.mono ?_; rintro e w0 ⟨rfl, hb0⟩)
      | (go_at_call 20; refine (HP.out _ hb0).mono ?_; rintro e w3 ⟨rfl, hb3⟩; have hB3 := hb0.trans (hb3.mono hb0.size))
      | (go_at_call 16; refine (HR.out _ hB3).mono ?_; rintro e w4 ⟨⟨a4, c4, rfl, L4⟩, hb4⟩; have hB4 := hB3.trans (hb4.mono hB3.size))
      | (go_at_call 15; refine (HA.out _ hB4).mono ?_; rintro e w5 ⟨rfl, hb5⟩; have hB5 := hB4.trans (hb5.mono hB4.size))
      | (go_at_call 18; refine (HS.out _ _ _ _ _ (HX.out _ hB5) (L4.below hb5)).mono ?_; rintro e w6 ⟨rfl, hb6⟩; have hB6 := hB5.trans (hb6.mono hB5.size)))
    go_ret
    exact ⟨rfl, hB6⟩
end Go.Proofs.YtdbahiepihkagaaGreatDoor
namespace Go.Proofs.YtdbahiepihkagaaGreatDoor
set_option maxRecDepth 100000
open Go.RowKit

theorem around_out : ∀ (k : Nat) (s : Bytes), around (k + 1) s = 40 :: 32 :: (around k s ++ [41, 35, 32, 120, 10])
  | 0, s => rfl
  | k + 1, s => by
    show around (k + 1) (40 :: 32 :: (s ++ [41, 35, 32, 120, 10])) = _
    rw [around_out k]
    rfl
theorem around_len : ∀ (k : Nat) (s : Bytes), (around k s).length = s.length + 7 * k
  | 0, s => by simp [around]
  | k + 1, s => by
    rw [around_out, List.length_cons, List.length_cons, List.length_append, around_len k]
    simp
    omega
set_option maxHeartbeats 4000000 in
theorem exprIgnores_walk (W : World) (hL6 : Lay6 W) (a : Option Addr) (c : Nat) (xs : List (Int × Int)) (hX : LinksAt W a xs) (hcap : xs.length ≤ c) (na : Option Addr) (nc : Nat) (ns : List Bytes) (hN : NamesAt W na ns) (hc : ns.length ≤ nc) (p : Nat) (hp : p ≤ 255) :
    Calls Tryz.prog 6 #[.slice a xs.length c, .slice na ns.length nc, .int .u8 (p : Int)] W fun e W' => e = .returned (.bool true) ∧ Below W.heap.size W W' := by
  have HA := Lib.hid (fun w (h : Below W.heap.size W w) => awake6_any w (hL6.below h (Nat.le_refl _)))
  have HF := Lib.hid (fair6_any a c xs na nc ns W hX hN hc)
  cases hf : (decide (xs.length ≤ 250) && (lightN ns && fairE xs ns)) with
  | false =>
    rw [hf] at HF
    clear hX hN hc hf hcap
    generalize xs.length = k at *
    generalize ns.length = m at *
    go_enter Tryz.func6, Tryz.ntmps6
    go_wp2_with (first | (go_at_call 22; refine HF.out.mono ?_; rintro e w0 ⟨rfl, hb0⟩) | (go_at_call 15; refine (HA.out _ hb0).mono ?_; rintro e w1 ⟨rfl, hb⟩))
    go_ret
    exact ⟨rfl, hb0.trans (hb.mono hb0.size)⟩
  | true =>
    rw [hf] at HF
    rw [Bool.and_eq_true, Bool.and_eq_true, decide_eq_true_eq] at hf
    obtain ⟨h250, hl, hfe⟩ := hf
    have h10 := light_ten hl
    obtain ⟨x, hx⟩ := fair_x hfe
    have htx := fun k (hk : k ≤ 20) => hx.text k hk
    have HP := Lib.hid (fun (w : World) (h : Below W.heap.size W w) => formatP_ok a c xs na nc ns w (hX.below h) (hN.below h rfl) hc hfe x hx.flat hx.wf hcap (hL6.below h (Nat.le_refl _)))
    have HR := Lib.hid (fun (w : World) (h : Below W.heap.size W w) => readP_any (T := around (p % 20) (x.text ns)) na nc w (hN.below h rfl) hc h10 (htx _ (by omega)).1 (htx _ (by omega)).2.2 (hL6.below h (Nat.le_refl _)))
    have HS := Lib.hid (fun (a a' : Option Addr) (c c' : Nat) (w : World) (h1 : LinksAt w a xs) (h2 : LinksAt w a' xs) => sameR_any a a' c c' xs xs w h1 h2 (by omega) (by omega))
    have HX := Lib.hid (fun (w : World) (h : Below W.heap.size W w) => hX.below h)
    have h0 := (htx 0 (by omega)).2.1
    have hlen0 : (x.text ns).length ≤ 6000 := h0
    clear hX hN hc hl h10 h250 hfe hx htx h0 hcap
    generalize x.text ns = T at *
    generalize ns.length = m at *
    go_enter Tryz.func6, Tryz.ntmps6
    go_wp2_with (first
      | (go_at_call 22; refine HF.out.mono ?_; rintro e w0 ⟨rfl, hb0⟩)
      | (go_at_call 20; refine (HP.out _ hb0).mono ?_; rintro e w3 ⟨rfl, hb3⟩; have hB3 := hb0.trans (hb3.mono hb0.size)))
    go_loop [7, 9] (fun ts ti => ∃ i : Nat, ts = .string (mkS (around i T)) ∧ ti = .int .i64 i ∧ i ≤ p % 20) (fun _ ti => p % 20 - (intOf ti).toNat)
    case atStart => exact ⟨0, rfl, rfl, Nat.zero_le _⟩
    case round =>
      obtain ⟨i, rfl, rfl, hi⟩ := hrel
      by_cases hlt : i < p % 20
      · have hal := around_len i T
        have hao := around_out i T
        have add1 : ∀ W, (Op.stringOp .add ⟨#[40, 32]⟩ (mkS (around i T))).run Tryz.prog W = .ok (.string (mkS (40 :: 32 :: around i T))) W := fun W => mkS_add [40, 32] _ (by simp) (by omega) W
        have add2 : ∀ W, (Op.stringOp .add (mkS (40 :: 32 :: around i T)) ⟨#[41, 35, 32, 120, 10]⟩).run Tryz.prog W = .ok (.string (mkS (around (i + 1) T))) W := fun W => by
          rw [hao]
          exact mkS_add (40 :: 32 :: around i T) [41, 35, 32, 120, 10] (by simp; omega) (by simp) W
        clear hal hao
        generalize mkS (40 :: 32 :: around i T) = z2 at *
        generalize mkS (around i T) = z1 at *
        go_wp2
        go_round
        case rel => exact ⟨i + 1, rfl, by go_num, hlt⟩
        case measure => simp [intOf]; omega
      · obtain rfl : i = p % 20 := by omega
        generalize mkS (around (p % 20) T) = z at *
        go_wp2_with (first
          | (go_at_call 16; refine (HR.out _ hB3).mono ?_; rintro e w4 ⟨⟨a4, c4, rfl, L4⟩, hb4⟩; have hB4 := hB3.trans (hb4.mono hB3.size))
          | (go_at_call 15; refine (HA.out _ hB4).mono ?_; rintro e w5 ⟨rfl, hb5⟩; have hB5 := hB4.trans (hb5.mono hB4.size))
          | (go_at_call 18; refine (HS.out _ _ _ _ _ (HX.out _ hB5) (L4.below hb5)).mono ?_; rintro e w6 ⟨rfl, hb6⟩; have hB6 := hB5.trans (hb6.mono hB5.size)))
        go_ret
        exact ⟨rfl, hB6⟩
end Go.Proofs.YtdbahiepihkagaaGreatDoor
