/- The walk of TypesFollowRenaming. -/
import Derived.Test.YtckofngclgkajaaTypW4
import Derived.Test.YtckofngclgkajaaTypMath4
import Derived.Test.YtckofngclgkajaaTermBack2
import Derived.Deep.QuietTactic
import Derived.BigQuiet
namespace Go.Proofs.Ytckofngclgkajaa
set_option maxRecDepth 100000
open Go.RowKit

theorem row6_lit (w : World) : Row6 (w.alloc (.cells #[.int .i64 1, .int .i64 1, .int .i64 1, .int .i64 1, .int .i64 1, .int .i64 1] 3)) w.heap.size (fun _ => 1) := by
  intro i hi
  refine ⟨?_, World.frozen?_alloc_new w _ _ i⟩
  rw [World.cell?_alloc_new]
  match i, hi with
  | 0, _ => rfl
  | 1, _ => rfl
  | 2, _ => rfl
  | 3, _ => rfl
  | 4, _ => rfl
  | 5, _ => rfl
theorem Row6.ints7 {w : World} {g : Nat} {f : Nat → Int} (h : Row6 w g f) (hg : g < w.heap.size) (hr : ∀ i, i < 6 → 1 ≤ f i ∧ f i ≤ 3) : IntsAt w (some ⟨g, 0, none⟩) (rowL f) :=
  h.ints hg (fun i hi => by have := hr i hi; omega)
theorem rowL_kinds {f : Nat → Int} (h : ∀ i, i < 6 → 1 ≤ f i ∧ f i ≤ 3) : kindsOk (rowL f) := by
  intro z hz
  unfold rowL at hz
  obtain ⟨i, hi, rfl⟩ := List.mem_map.1 hz
  rw [List.mem_range] at hi
  exact h i hi
set_option maxHeartbeats 8000000 in
theorem typesRename_walk (W : World) (a : Option Addr) (c : Nat) (xs : List (Int × Int)) (hX : LinksAt W a xs) (hcap : xs.length ≤ c) (ka : Option Addr) (kc : Nat) (ks : List Int) (hK : IntsAt W ka ks) (ma : Option Addr) (mc : Nat) (zs : List Int) (hZ : IntsAt W ma zs) (b : Bool) :
    Calls Try.prog 8 #[.slice a xs.length c, .slice ka ks.length kc, .slice ma zs.length mc, .bool b] W fun e W' => e = .returned (.bool true) ∧ Below W.heap.size W W' := by
  have HA := Lib.hid (fun w => awake7_any w)
  have HLE := Lib.hid (fun W => lightE_any a xs.length c W)
  by_cases h250 : xs.length ≤ 250
  case neg =>
    rw [decide_eq_false h250] at HLE
    clear hX hK hZ hcap
    generalize xs.length = n at *
    generalize ks.length = m at *
    generalize zs.length = l at *
    go_enter Try.func8, Try.ntmps8
    go_wp2_with (first | (go_at_call 11; refine (HLE.out _).mono ?_; rintro e w0 ⟨rfl, hw0⟩; have hw0' := hw0.symm; subst hw0') | (go_at_call 12; refine (HA.out _).mono ?_; rintro e wa ⟨rfl, hba⟩))
    go_ret
    exact ⟨rfl, hba⟩
  rw [decide_eq_true h250] at HLE
  by_cases h6 : 6 < ks.length
  · have d : (6 : Int) < (ks.length : Int) := by omega
    clear hX hK hZ hcap
    generalize xs.length = n at *
    generalize ks.length = m at *
    generalize zs.length = l at *
    go_enter Try.func8, Try.ntmps8
    go_wp2_with (first | (go_at_call 11; refine (HLE.out _).mono ?_; rintro e w0 ⟨rfl, hw0⟩; have hw0' := hw0.symm; subst hw0') | (go_at_call 12; refine (HA.out _).mono ?_; rintro e wa ⟨rfl, hba⟩))
    go_ret
    exact ⟨rfl, hba⟩
  have d6 : decide ((6 : Int) < (ks.length : Int)) = false := by simp; omega
  by_cases hlz : zs.length = ks.length
  case neg =>
    have dl : ((zs.length : Int) != (ks.length : Int)) = true := by simp; omega
    clear hX hK hZ hcap
    generalize xs.length = n at *
    generalize ks.length = m at *
    generalize zs.length = l at *
    go_enter Try.func8, Try.ntmps8
    go_wp2_with (first | (go_at_call 11; refine (HLE.out _).mono ?_; rintro e w0 ⟨rfl, hw0⟩; have hw0' := hw0.symm; subst hw0') | (go_at_call 12; refine (HA.out _).mono ?_; rintro e wa ⟨rfl, hba⟩))
    go_ret
    exact ⟨rfl, hba⟩
  have dl : ((zs.length : Int) != (ks.length : Int)) = false := by simp; omega
  have HV := Lib.hid (fun W2 (h : Below W.heap.size W W2) => validR_any a c xs ks.length W2 (hX.below h) (by omega))
  cases hv : validE xs ks.length with
  | false =>
    rw [hv] at HV
    clear hX hK hZ hcap h6 hlz
    generalize xs.length = n at *
    generalize ks.length = m at *
    generalize zs.length = l at *
    go_enter Try.func8, Try.ntmps8
    go_wp2_with (first | (go_at_call 11; refine (HLE.out _).mono ?_; rintro e w0 ⟨rfl, hw0⟩; have hw0' := hw0.symm; subst hw0') | (go_at_call 25; refine (HV.out _ (Below.refl _ _)).mono ?_; rintro e w1 ⟨rfl, hb1⟩) | (go_at_call 12; refine (HA.out _).mono ?_; rintro e wa ⟨rfl, hba⟩; have hBa := hb1.trans (hba.mono hb1.size)))
    go_ret
    exact ⟨rfl, hBa⟩
  | true =>
  rw [hv] at HV
  have HRn := Lib.hid (fun W2 (h : Below W.heap.size W W2) => renameR_any a c xs ma mc zs W2 (hX.below h) (by omega) (hZ.below h))
  have hro : renO xs zs = if (zs.all fun z => decide (0 ≤ z ∧ z < 6)) = true then .inr (renL xs zs) else .inl 2 := by
    unfold renO
    rw [hlz, if_pos hv]
  cases hall : (zs.all fun z => decide (0 ≤ z ∧ z < 6)) with
  | false =>
    rw [hall, if_neg (by decide)] at hro
    rw [hro] at HRn
    clear hX hK hZ hcap h6 hlz hv hro hall
    unfold RenSays at HRn
    dsimp only at HRn
    generalize xs.length = n at *
    generalize ks.length = m at *
    generalize zs.length = l at *
    go_enter Try.func8, Try.ntmps8
    go_wp2_with (first | (go_at_call 11; refine (HLE.out _).mono ?_; rintro e w0 ⟨rfl, hw0⟩; have hw0' := hw0.symm; subst hw0') | (go_at_call 25; refine (HV.out _ (Below.refl _ _)).mono ?_; rintro e w1 ⟨rfl, hb1⟩) | (go_at_call 26; refine (HRn.out _ hb1).mono ?_; rintro e w2 ⟨rfl, hb2⟩; have hB2 := hb1.trans (hb2.mono hb1.size)) | (go_at_call 12; refine (HA.out _).mono ?_; rintro e wa ⟨rfl, hba⟩; have hBa := hB2.trans (hba.mono hB2.size)))
    go_ret
    exact ⟨rfl, hBa⟩
  | true =>
  rw [hall, if_pos rfl] at hro
  rw [hro] at HRn
  unfold RenSays at HRn
  dsimp only at HRn
  have hnm : ∀ i, i < ks.length → 0 ≤ idA zs i ∧ idA zs i < 6 := fun i hi => by
    have h1 := List.all_eq_true.1 hall (idA zs i) (by unfold idA; rw [List.getD_eq_getElem?_getD, List.getElem?_eq_getElem (by omega)]; exact List.getElem_mem (by omega))
    simpa using h1
  have hyl : (renL xs zs).length = xs.length := renL_len
  have hyf := ren_fits hro hX.fits
  obtain ⟨k, f, hof⟩ := of_ex xs ks b
  have HP := Lib.hid (fun (w : World) (h : Below W.heap.size W w) => ofP_any a c xs ka kc ks b w (hX.below h) (hK.below h) (by omega) hcap hof)
  have HOf := Lib.hid hof
  have HNm := Lib.hid hnm
  have HYl := Lib.hid hyl
  have HYf := Lib.hid hyf
  have HL := Lib.hid hlz
  have HH6 : Hid (ks.length ≤ 6) := Lib.hid (by omega)
  have HQ : Hid (okT xs ks = true → ∀ (ls : List Int), kindsOk ls → ls.length = 6 → (∀ i, i < ks.length → idA ls (idA zs i).toNat = idA ks i) → ∀ (w : World) (B : Nat) (a' la : Option Addr) (c' lc : Nat), OwnT B w (.slice a' xs.length c') (renL xs zs) → IntsAt w la ls →
      Calls Try.prog 13 #[.slice a' xs.length c', .slice la 6 lc, .bool b] w fun e w' => e = .returned (.tuple #[.int .i64 k, .int .i64 f]) ∧ Below w.heap.size w w') := Lib.hid (fun hok ls hls hl hs w B a' la c' lc O hI => by
    have h1 := of_ren hof hok hnm hl hls hs
    have h2 := ofP_any a' c' (renL xs zs) la lc ls b w (O.links hyf) hI (by rw [hyl]; omega) O.fits7 h1
    rw [hyl, hl] at h2
    exact h2)
  have HC : Hid (∀ i, i < ks.length → ∃ (zg zo kg ko : Nat), ma = some ⟨zg, zo, none⟩ ∧ ka = some ⟨kg, ko, none⟩ ∧ ∀ w, Below W.heap.size W w → w.cell? ⟨zg, zo + i, none⟩ = some (.int .i64 (idA zs i)) ∧ w.cell? ⟨kg, ko + i, none⟩ = some (.int .i64 (idA ks i))) := Lib.hid (fun i hi => by
    obtain ⟨zg, zo, e1, z1, z2⟩ := hZ.row (by omega)
    obtain ⟨kg, ko, e2, k1, k2⟩ := hK.row (by omega)
    exact ⟨zg, zo, kg, ko, e1, e2, fun w h => ⟨(h.cell (p := ⟨zg, zo + i, none⟩) z1).trans (z2 i (by omega)), (h.cell (p := ⟨kg, ko + i, none⟩) k1).trans (k2 i hi)⟩⟩)
  have HOk : Hid (okT xs ks = true → ∀ i, i < ks.length → 1 ≤ idA ks i ∧ idA ks i ≤ 3) := Lib.hid (fun hok i hi => idA_kind (okT_parts hok).2.1 hi)
  have HZf : Hid (f = 7 → k = 0) := Lib.hid (fun h7 => by
    rcases hof with ⟨_, h1, _⟩ | ⟨_, x, _, _, _, h1, h2⟩
    · exact h1
    · rw [h7] at h2
      unfold outK at h2
      split at h2
      · have h3 : (7 : Int) = 6 := h2
        omega
      · have h3 : (7 : Int) = 0 := h2
        omega)
  have HNf : Hid (f ≠ 7 → okT xs ks = true) := Lib.hid (fun h7 => by
    rcases hof with ⟨_, _, h1⟩ | ⟨h, _⟩
    · exact absurd h1 h7
    · exact h)
  clear hX hK hZ hcap h6 hv hro hall hnm hyl hyf hof h250
  rw [hlz] at dl
  rw [hlz] at HRn
  generalize xs.length = n at *
  rw [hlz]
  clear hlz
  generalize ks.length = m at *
  have hm6 := HH6.out
  go_enter Try.func8, Try.ntmps8
  go_wp2_with (first | (go_at_call 11; refine (HLE.out _).mono ?_; rintro e w0 ⟨rfl, hw0⟩; have hw0' := hw0.symm; subst hw0') | (go_at_call 25; refine (HV.out _ (Below.refl _ _)).mono ?_; rintro e w1 ⟨rfl, hb1⟩) | (go_at_call 26; refine (HRn.out _ hb1).mono ?_; rintro e w2 ⟨⟨v, rfl, O2⟩, hb2⟩; have hB2 := hb1.trans (hb2.mono hb1.size)))
  obtain ⟨a2, c2, rfl, _⟩ := OwnT.shape O2
  rw [HYl.out] at O2 ⊢
  have HO2 := Lib.hid O2
  have HR0 := Lib.hid (row6_lit w2)
  have HG0 := Lib.hid (below_alloc7 w2)
  have HBW := Lib.hid hB2
  obtain ⟨g, hg⟩ : ∃ g, g = w2.heap.size := ⟨_, rfl⟩
  have HGs := Lib.hid hg
  clear O2 hb1 hb2 hB2
  go_loopw [12] (fun t wr => ∃ (i : Nat) (h : Nat → Int), t = .int .i64 i ∧ i ≤ m ∧ Below w2.heap.size w2 wr ∧ w2.heap.size < wr.heap.size ∧ Row6 wr w2.heap.size h ∧ (∀ v, v < 6 → h v = 1 ∨ ∃ j, j < m ∧ h v = idA ks j)) (fun t _ => m - (intOf t).toNat)
  case atStart => exact ⟨0, fun _ => 1, rfl, Nat.zero_le _, HG0.out _, by simp, HR0.out, fun v _ => .inl rfl⟩
  case round =>
    obtain ⟨i, h, rfl, him, hbl, hsz, hrow, hval⟩ := hrel
    have HRow := Lib.hid hrow
    have HVal := Lib.hid hval
    have HBl := Lib.hid hbl
    have HSz := Lib.hid hsz
    have hbW := HBW.out.trans (hbl.mono HBW.out.size)
    have HbW := Lib.hid hbW
    clear hrow hval hbl hsz hbW
    by_cases hlt : i < m
    · obtain ⟨zg, zo, kg, ko, rfl, rfl, hcc⟩ := HC.out i hlt
      obtain ⟨cz, ck⟩ := hcc wr HbW.out
      have hd := HNm.out i hlt
      obtain ⟨d, hd2⟩ : ∃ d : Nat, idA zs i = d := ⟨(idA zs i).toNat, by omega⟩
      rw [hd2] at cz
      have hd6 : d < 6 := by omega
      obtain ⟨cr, cf⟩ := HRow.out d hd6
      have d0 : (0 : Int) ≤ (d : Int) := by omega
      have d5 : (d : Int) < 6 := by omega
      have i0 : (0 : Int) ≤ (i : Int) := by omega
      have im : (i : Int) < (m : Int) := by omega
      have HRow2 := Lib.hid (HRow.out.put (idA ks i) hd6)
      have HVal2 : Hid (∀ v, v < 6 → (fun v => if v = d then idA ks i else h v) v = 1 ∨ ∃ j, j < m ∧ (fun v => if v = d then idA ks i else h v) v = idA ks j) := Lib.hid (fun v hv => by
        dsimp only
        split
        · exact .inr ⟨i, hlt, rfl⟩
        · exact HVal.out v hv)
      have HB2 := Lib.hid (HBl.out.setCell (p := ⟨w2.heap.size, d, none⟩) (Nat.le_refl _) (.int .i64 (idA ks i)))
      clear hd hd2 hcc
      generalize idA ks i = y at *
      go_wp2
      go_region
      go_wp2
      go_roundw
      case rel => exact ⟨i + 1, _, by go_num, by omega, by first | exact HB2.out | exact belDraws HB2.out _ | exact HB2.out.drew, by first | (simp; exact HSz.out) | exact HSz.out, by first | exact HRow2.out | exact HRow2.out, HVal2.out⟩
      case measure => simp [intOf]; omega
    · obtain rfl : m = i := by omega
      go_wp2
      obtain ⟨wo, rfl⟩ : ∃ wo : World, wo = wr := ⟨_, rfl⟩
      go_loopw [13] (fun t wr => ∃ (i : Nat), t = .int .i64 i ∧ i ≤ m ∧ Below w2.heap.size w2 wr ∧ w2.heap.size < wr.heap.size ∧ Row6 wr w2.heap.size h ∧ (∀ j, j < i → h (idA zs j).toNat = idA ks j)) (fun t _ => m - (intOf t).toNat)
      case atStart => exact ⟨0, rfl, Nat.zero_le _, HBl.out, HSz.out, HRow.out, fun j hj => absurd hj (by omega)⟩
      case round =>
        obtain ⟨i, rfl, him, hbl, hsz, hrow, hsame⟩ := hrel
        have HRw := Lib.hid hrow
        have HSm := Lib.hid hsame
        have HBq := Lib.hid hbl
        have HSq := Lib.hid hsz
        have HbQ := Lib.hid (HBW.out.trans (hbl.mono HBW.out.size))
        clear hrow hsame hbl hsz
        by_cases hlt : i < m
        · obtain ⟨zg, zo, kg, ko, rfl, rfl, hcc⟩ := HC.out i hlt
          obtain ⟨cz, ck⟩ := hcc wr HbQ.out
          have hd := HNm.out i hlt
          obtain ⟨d, hd2⟩ : ∃ d : Nat, idA zs i = d := ⟨(idA zs i).toNat, by omega⟩
          rw [hd2] at cz
          have hd6 : d < 6 := by omega
          obtain ⟨cr, _⟩ := HRw.out d hd6
          have d0 : (0 : Int) ≤ (d : Int) := by omega
          have d5 : (d : Int) < 6 := by omega
          have i0 : (0 : Int) ≤ (i : Int) := by omega
          have im : (i : Int) < (m : Int) := by omega
          by_cases he : h d = idA ks i
          · have HSm2 : Hid (∀ j, j < i + 1 → h (idA zs j).toNat = idA ks j) := Lib.hid (fun j hj => by
              rcases Nat.lt_or_ge j i with h1 | h1
              · exact HSm.out j h1
              · obtain rfl : j = i := by omega
                rw [hd2, Int.toNat_natCast]
                exact he)
            rw [he] at cr
            clear hd hd2 hcc he
            generalize idA ks i = y at *
            have yy : (y != y) = false := by simp
            go_wp2
            go_quiet (fail)
            go_wp2
            go_roundw
            case rel => exact ⟨i + 1, by go_num, by omega, by first | exact HBq.out | exact belDraws HBq.out _, HSq.out, by first | exact HRw.out, HSm2.out⟩
            case measure => simp [intOf]; omega
          · have yy : (h d != idA ks i) = true := by simpa using he
            clear hd hd2 hcc he
            generalize idA ks i = y at *
            generalize h d = u at *
            go_wp2
            go_quiet (fail)
            go_wp2_with (go_at_call 12; refine (HA.out _).mono ?_; rintro e wa ⟨rfl, hba⟩)
            go_ret
            exact ⟨rfl, (show Below W.heap.size W _ from by first | exact HbQ.out | exact belDraws HbQ.out _).trans (hba.mono HbQ.out.size)⟩
        · obtain rfl : m = i := by omega
          by_cases h7 : f = 7
          · have hk0 := HZf.out h7
            subst h7 hk0
            go_wp2_with (first | (go_at_call 13; refine (HP.out _ HbQ.out).mono ?_; rintro e w7 ⟨rfl, hb7⟩; have hB7 := HbQ.out.trans (hb7.mono HbQ.out.size)) | (go_at_call 12; refine (HA.out _).mono ?_; rintro e wa ⟨rfl, hba⟩; have hBa := hB7.trans (hba.mono hB7.size)))
            go_ret
            exact ⟨rfl, hBa⟩
          · have f7 : (f == 7) = false := by simpa using h7
            have hok := HNf.out h7
            have hrg : ∀ v, v < 6 → 1 ≤ h v ∧ h v ≤ 3 := fun v hv => by
              rcases HVal.out v hv with e | ⟨j, hj, e⟩
              · rw [e]; decide
              · rw [e]; exact HOk.out hok j hj
            have HX2 := Lib.hid (fun (w : World) (hb : Below wr.heap.size wr w) => HQ.out hok (rowL h) (rowL_kinds hrg) (rowL_len h) (fun j hj => by
                have h1 := HNm.out j hj
                have h2 := HH6.out
                rw [rowL_at h (by omega)]
                exact HSm.out j hj) w _ a2 (some ⟨w2.heap.size, 0, none⟩) c2 6 ((HO2.out.far HBq.out).far hb) ((HRw.out.bel hb HSq.out).ints7 (Nat.lt_of_lt_of_le HSq.out hb.size) hrg))
            have kk : (k == k) = true := by simp
            have ff : (f == f) = true := by simp
            clear hrg
            go_wp2_with (first
              | (go_at_call 13; first
                  | ((with_reducible refine (HX2.out _ hb7).mono ?_); rintro e w8 ⟨rfl, hb8⟩; have hB8 := hB7.trans (hb8.mono hB7.size))
                  | ((with_reducible refine (HP.out _ HbQ.out).mono ?_); rintro e w7 ⟨rfl, hb7⟩; have hB7 := HbQ.out.trans (hb7.mono HbQ.out.size)))
              | (go_at_call 12; refine (HA.out _).mono ?_; rintro e wa ⟨rfl, hba⟩; have hBa := hB8.trans (hba.mono hB8.size)))
            go_ret
            exact ⟨rfl, hBa⟩
end Go.Proofs.Ytckofngclgkajaa
