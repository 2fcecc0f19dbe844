/- GraphtextNamesTheLine: for every valid graph of at most 30 nodes with 30 ports, every word of at most 40 bytes from a to m and every place: Parse of the graph's text with that word as a line of its own answers ErrSyntax with that line; other arguments ask the example alone. -/
import Derived.Test.YtahhndhaciijpaaDoorNamesMath
import Derived.Test.YtahhndhaciijpaaDoorLawT2
namespace Go.Proofs.YtahhndhaciijpaaDoor
open Go.ChangeShapes Go.WideShapes Go.ChangeAt Go.RowKit

theorem mod_any (k : Int) (n : Nat) (w : World) (hk : I64 k) (hn : 1 ≤ n) (hn2 : n ≤ 1000000) :
    Calls Tryd.prog 18 #[.int .i64 k, .int .i64 n] w fun e w' => e = .returned (.int .i64 (k % n)) ∧ w = w' := by
  obtain ⟨h1, h2⟩ := hk
  have hn0 : (1 : Int) ≤ n := by omega
  have hne : ((n : Int) == 0) = false := by simp; omega
  have ht : k.tmod n < n := Int.tmod_lt_of_pos k (by omega)
  have ht2 : -(n : Int) < k.tmod n := Int.lt_tmod_of_pos k (by omega)
  by_cases h0 : 0 ≤ k
  · have e1 : 0 ≤ k % (n : Int) := Int.emod_nonneg k (by omega)
    go_enter Tryd.func18, Tryd.ntmps18
    go_wp2
    go_ret
    exact ⟨rfl, rfl⟩
  · have he : k % (n : Int) = if k.tmod n < 0 then k.tmod n + n else k.tmod n := by
      rw [Int.tmod_eq_emod]
      have e1 := Int.emod_nonneg k (b := (n : Int)) (by omega)
      have e2 := Int.emod_lt_of_pos k (b := (n : Int)) (by omega)
      by_cases hd : (n : Int) ∣ k
      · have := Int.emod_eq_zero_of_dvd hd
        simp [h0, hd]; omega
      · simp [h0, hd]; omega
    have He := Lib.hid he
    clear he
    by_cases ht0 : k.tmod n < 0
    · go_enter Tryd.func18, Tryd.ntmps18
      go_wp2
      go_ret
      exact ⟨ret_int (by rw [He.out, if_pos ht0]), rfl⟩
    · go_enter Tryd.func18, Tryd.ntmps18
      go_wp2
      go_ret
      exact ⟨ret_int (by rw [He.out, if_neg (by omega)]), rfl⟩
theorem mod_place (a : Int) (ha : I64 a) (n : Nat) (hn : n ≤ 100000) : ∃ k : Nat, k ≤ n ∧ ∀ w, Calls Tryd.prog 18 #[.int .i64 a, .int .i64 ((n : Int) + 1)] w fun e w' => e = .returned (.int .i64 (k : Int)) ∧ w = w' := by
  have h1 := Int.emod_nonneg a (b := ((n + 1 : Nat) : Int)) (by omega)
  have h2 := Int.emod_lt_of_pos a (b := ((n + 1 : Nat) : Int)) (by omega)
  refine ⟨(a % ((n + 1 : Nat) : Int)).toNat, by omega, fun w => ?_⟩
  have := mod_any a (n + 1) w ha (by omega) (by omega)
  rw [Int.toNat_of_nonneg h1]
  simpa using this

namespace lawGraphtextNamesTheLine
theorem gl_all {W : World} {L : List (String × DataW Unit)} (h : W.ShapedOpen Tryd.prog) (_ : laidMet Tryd.prog L W) : Gl W := gl_of h

set_option maxRecDepth 100000 in
set_option maxHeartbeats 2000000 in
theorem walk (W : World) (hg : Gl W) (ia : Option Addr) (il ic : Nat) (pa : Option Addr) (pl pc : Nat) (G : Gr) (hG : GraphAt W ia il pa pl G) (a : Int) (ha : (Lit.int .i64 a).wf = true) (s : ByteArray) :
    Calls Tryd.prog 7 #[.agg #[.slice ia il ic, .slice pa pl pc], .int .i64 a, .string s] W fun e W' => e = .returned (.bool true) ∧ Below W.heap.size W W' := by
  have HG := Lib.hid hg
  have HGr := Lib.hid hG
  have H0 := Lib.hid (Bx.start W ia il ic pa pl pc)
  have hl := fun w (h : Bx W ia il ic pa pl pc w) => light_any ia pa il ic pl pc G w (HGr.out.below h.bel)
  have hv := fun w (h : Bx W ia il ic pa pl pc w) => refValid_any ia pa il ic pl pc G w (HGr.out.below h.bel)
  have HA := Lib.hid (wf_I64 ha)
  clear hg hG ha
  obtain ⟨u, rfl⟩ : ∃ u : List UInt8, s = ⟨u.toArray⟩ := ⟨s.data.toList, by cases s; simp⟩
  have c0 := H0.out.c0
  have c1 := H0.out.c1
  cases h1 : lightB G with
  | false =>
    rw [h1] at hl
    go_enter Tryd.func7, Tryd.ntmps7
    go_wp2_with (first | (go_at_call 13; refine (hl _ H0.out).mono ?_; rintro e w1 ⟨rfl, hb1⟩; have H1 := Lib.hid (H0.out.next hb1); clear hb1) | (go_at_call 9; refine (awake_any _ (HG.out.below H1.out.bel)).mono ?_; rintro e w2 ⟨rfl, hb2⟩))
    go_ret
    exact ⟨rfl, (H1.out.next hb2).bel⟩
  | true =>
    rw [h1] at hl
    cases h2 : validB G with
    | false =>
      rw [h2] at hv
      go_enter Tryd.func7, Tryd.ntmps7
      go_wp2_with (first | (go_at_call 13; refine (hl _ H0.out).mono ?_; rintro e w1 ⟨rfl, hb1⟩; have H1 := Lib.hid (H0.out.next hb1); clear hb1; have d0 := H1.out.c0; have d1 := H1.out.c1) | (go_at_call 16; refine (hv _ H1.out).mono ?_; rintro e w2 ⟨rfl, hb2⟩; have H2 := Lib.hid (H1.out.next hb2); clear hb2) | (go_at_call 9; refine (awake_any _ (HG.out.below H2.out.bel)).mono ?_; rintro e w3 ⟨rfl, hb3⟩))
      go_ret
      exact ⟨rfl, (H2.out.next hb3).bel⟩
    | true =>
      rw [h2] at hv
      by_cases h3 : 40 < u.length
      · have dd : decide (40 < (u.length : Int)) = true := by simp; omega
        go_enter Tryd.func7, Tryd.ntmps7
        go_wp2_with (first | (go_at_call 13; refine (hl _ H0.out).mono ?_; rintro e w1 ⟨rfl, hb1⟩; have H1 := Lib.hid (H0.out.next hb1); clear hb1; have d0 := H1.out.c0; have d1 := H1.out.c1) | (go_at_call 16; refine (hv _ H1.out).mono ?_; rintro e w2 ⟨rfl, hb2⟩; have H2 := Lib.hid (H1.out.next hb2); clear hb2) | (go_at_call 9; refine (awake_any _ (HG.out.below H2.out.bel)).mono ?_; rintro e w3 ⟨rfl, hb3⟩))
        go_ret
        exact ⟨rfl, (H2.out.next hb3).bel⟩
      · have dd : decide (40 < (u.length : Int)) = false := by simp; omega
        have HV := Lib.hid (validB_iff.1 h2)
        go_enter Tryd.func7, Tryd.ntmps7
        go_wp2_with (first | (go_at_call 13; refine (hl _ H0.out).mono ?_; rintro e w1 ⟨rfl, hb1⟩; have H1 := Lib.hid (H0.out.next hb1); clear hb1; have d0 := H1.out.c0; have d1 := H1.out.c1) | (go_at_call 16; refine (hv _ H1.out).mono ?_; rintro e w2 ⟨rfl, hb2⟩; have H2 := Lib.hid (H1.out.next hb2); clear hb2; have b0 := H2.out.c0; have b1 := H2.out.c1))
        clear hl hv c0 c1 d0 d1
        go_loop [7] (fun t => ∃ i : Nat, i ≤ u.length ∧ t = .int .i64 i ∧ ∀ b ∈ u.take i, isAM b) (fun t => u.length - (intOf t).toNat)
        case atStart => exact ⟨0, Nat.zero_le _, rfl, fun b hb => by simp at hb⟩
        case round =>
          obtain ⟨i, hi, rfl, hall⟩ := hrel
          have Hall := Lib.hid hall
          clear hall
          by_cases hlt : i < u.length
          · have hsz : i < (⟨u.toArray⟩ : ByteArray).size := by simpa [ByteArray.size] using hlt
            have hx : (⟨u.toArray⟩ : ByteArray)[i] = u[i] := rfl
            have hmem : u.take (i + 1) = u.take i ++ [u[i]] := List.take_succ_eq_append_getElem hlt
            by_cases hlo : ((⟨u.toArray⟩ : ByteArray)[i]).toNat < 97
            · have dl : decide (((((⟨u.toArray⟩ : ByteArray)[i]).toNat : Nat) : Int) < 97) = true := by simp; omega
              clear hx hmem
              go_wp2_with (go_at_call 9; refine (awake_any _ (HG.out.below H2.out.bel)).mono ?_; rintro e w3 ⟨rfl, hb3⟩)
              go_ret
              exact ⟨rfl, (H2.out.next hb3).bel⟩
            have dl : decide (((((⟨u.toArray⟩ : ByteArray)[i]).toNat : Nat) : Int) < 97) = false := by simp; omega
            by_cases hhi : 109 < ((⟨u.toArray⟩ : ByteArray)[i]).toNat
            · have dh : decide (109 < ((((⟨u.toArray⟩ : ByteArray)[i]).toNat : Nat) : Int)) = true := by simp; omega
              clear hx hmem
              go_wp2_with (go_at_call 9; refine (awake_any _ (HG.out.below H2.out.bel)).mono ?_; rintro e w3 ⟨rfl, hb3⟩)
              go_ret
              exact ⟨rfl, (H2.out.next hb3).bel⟩
            have dh : decide (109 < ((((⟨u.toArray⟩ : ByteArray)[i]).toNat : Nat) : Int)) = false := by simp; omega
            have Hn : Hid (∀ b ∈ u.take (i + 1), isAM b) := Lib.hid (fun b hb => by
              rw [hmem] at hb
              rcases List.mem_append.1 hb with hb | hb
              · exact Hall.out b hb
              · rw [List.mem_singleton.1 hb, ← hx]
                unfold isAM
                omega)
            clear hx hmem
            go_wp2
            go_round
            case rel => exact ⟨i + 1, by omega, by go_num, Hn.out⟩
            case measure => simp [intOf]; omega
          · have Hu : Hid (∀ b ∈ u, isAM b) := Lib.hid (by
              have := Hall.out
              rw [List.take_of_length_le (by omega)] at this
              exact this)
            clear Hall
            have hfm := refFormat_any ia pa il ic pl pc G w2 (HGr.out.below H2.out.bel)
            have HL := Lib.hid (formatS_lenN HV.out)
            have hls := fun w => lines_any ⟨(formatS G).toArray⟩ w (by have := HL.out; simp [ByteArray.size]; omega)
            have hd : (⟨(formatS G).toArray⟩ : ByteArray).data.toList = formatS G := by simp
            rw [hd] at hls
            have hll := lines_len (formatS G)
            have HF := Lib.hid (format_lines HV.out).2
            have HB := Lib.hid (fun k (hk : k ≤ (linesB (formatS G)).length) => text_bad HV.out Hu.out hk)
            have HF2 := Lib.hid (format_lines HV.out).1
            have HPL : Hid (∀ k, k ≤ (linesB (formatS G)).length → (partT (linesB (formatS G)) u k ((linesB (formatS G)).length + 1)).length ≤ 10050) := Lib.hid (fun k hk => by
              rw [part_len hk, HF2.out, ← HF.out]
              have := HL.out
              omega)
            clear hd HF HF2
            generalize linesB (formatS G) = ls at *
            have hlb : ls.length ≤ 20000 := by have := HL.out; omega
            obtain ⟨k, hk, hmod⟩ := mod_place a HA.out ls.length (by omega)
            clear hll
            go_wp2_with (first | (go_at_call 15; refine hfm.mono ?_; rintro e w3 ⟨rfl, hb3⟩; have H3 := Lib.hid (H2.out.next hb3); clear hb3) | (go_at_call 17; refine (hls _).mono ?_; rintro e w4 ⟨⟨la, lc, rfl, hS⟩, hb4⟩; have H4 := Lib.hid (H3.out.next hb4); clear hb4) | (go_at_call 18; (with_reducible refine (hmod _).mono ?_); rintro e w5 ⟨rfl, rfl⟩))
            have HS := Lib.hid hS
            have HB2 := Lib.hid (HB.out k hk)
            have HP2 := Lib.hid (HPL.out k hk)
            have Hmono := Lib.hid (fun i (hi : i ≤ ls.length + 1) => Nat.le_trans (part_mono ls u k (ls.length + 1) i hi) HP2.out)
            clear hS HB HPL hls hfm hmod b0 b1 hi hlt
            go_loop [12, 13] (fun q t => ∃ j : Nat, j ≤ ls.length + 1 ∧ t = .int .i64 j ∧ q = .string ⟨(partT ls u k j).toArray⟩) (fun _ t => ls.length + 1 - (intOf t).toNat)
            case atStart => exact ⟨0, Nat.zero_le _, rfl, rfl⟩
            case round =>
              obtain ⟨j, hj, rfl, rfl⟩ := hrel
              by_cases hjl : j < ls.length + 1
              · have hpl := Hmono.out j hj
                have hpl2 := Hmono.out (j + 1) (by omega)
                have hps := part_succ ls u k j
                rw [hps, List.length_append] at hpl2
                unfold addT at hps hpl2
                by_cases hjk : j = k
                · subst hjk
                  by_cases hjn : j < ls.length
                  · obtain ⟨sb, so, rfl, _, hcs⟩ : ∃ b o, la = some ⟨b, o, none⟩ ∧ b < w4.heap.size ∧ ∀ i, i < ls.length → w4.cell? ⟨b, o + i, none⟩ = some (strV (wordA ls i)) := by
                      rcases HS.out with h | h
                      · omega
                      · exact h
                    have hc : w4.cell? ⟨sb, so + j, none⟩ = some (.string ⟨(wordA ls j).toArray⟩) := hcs j hjn
                    clear hcs
                    rw [if_pos rfl, if_pos hjn] at hps hpl2
                    simp only [List.length_append, List.length_cons, List.length_nil] at hpl2
                    have HPS := Lib.hid hps
                    clear hps
                    generalize partT ls u j j = A at *
                    generalize wordA ls j = B at *
                    have hadd1 := fun W => run_string_add_lists (P := Tryd.prog) W u [10] (by omega) (by simp)
                    have hadd2 := fun W => run_string_add_lists (P := Tryd.prog) W A (u ++ [10]) (by omega) (by simp; omega)
                    have hadd3 := fun W => run_string_add_lists (P := Tryd.prog) W B [10] (by omega) (by simp)
                    have hadd4 := fun W => run_string_add_lists (P := Tryd.prog) W (A ++ (u ++ [10])) (B ++ [10]) (by simp; omega) (by simp; omega)
                    have dle : decide ((j : Int) ≤ (ls.length : Int)) = true := by simp; omega
                    have deq : ((j : Int) == (j : Int)) = true := by simp
                    have dlt : decide ((j : Int) < (ls.length : Int)) = true := by simp; omega
                    clear hpl2 hpl
                    go_wp2
                    go_round
                    case rel => exact ⟨j + 1, by omega, by go_num, by rw [HPS.out]; simp⟩
                    case measure => simp [intOf]; omega
                  · rw [if_pos rfl, if_neg hjn] at hps hpl2
                    simp only [List.length_append, List.length_cons, List.length_nil] at hpl2
                    have HPS := Lib.hid hps
                    clear hps
                    generalize partT ls u j j = A at *
                    have hadd1 := fun W => run_string_add_lists (P := Tryd.prog) W u [10] (by omega) (by simp)
                    have hadd2 := fun W => run_string_add_lists (P := Tryd.prog) W A (u ++ [10]) (by omega) (by simp; omega)
                    have dle : decide ((j : Int) ≤ (ls.length : Int)) = true := by simp; omega
                    have deq : ((j : Int) == (j : Int)) = true := by simp
                    have dlt : decide ((j : Int) < (ls.length : Int)) = false := by simp; omega
                    clear hpl2 hpl
                    go_wp2
                    go_round
                    case rel => exact ⟨j + 1, by omega, by go_num, by rw [HPS.out]; simp⟩
                    case measure => simp [intOf]; omega
                · by_cases hjn : j < ls.length
                  · obtain ⟨sb, so, rfl, _, hcs⟩ : ∃ b o, la = some ⟨b, o, none⟩ ∧ b < w4.heap.size ∧ ∀ i, i < ls.length → w4.cell? ⟨b, o + i, none⟩ = some (strV (wordA ls i)) := by
                      rcases HS.out with h | h
                      · omega
                      · exact h
                    have hc : w4.cell? ⟨sb, so + j, none⟩ = some (.string ⟨(wordA ls j).toArray⟩) := hcs j hjn
                    clear hcs
                    rw [if_neg hjk, if_pos hjn] at hps hpl2
                    simp only [List.length_append, List.length_cons, List.length_nil] at hpl2
                    have HPS := Lib.hid hps
                    clear hps
                    generalize partT ls u k j = A at *
                    generalize wordA ls j = B at *
                    have hadd3 := fun W => run_string_add_lists (P := Tryd.prog) W B [10] (by omega) (by simp)
                    have hadd4 := fun W => run_string_add_lists (P := Tryd.prog) W A (B ++ [10]) (by omega) (by simp; omega)
                    have dle : decide ((j : Int) ≤ (ls.length : Int)) = true := by simp; omega
                    have deq : ((j : Int) == (k : Int)) = false := by rw [beq_eq_false_iff_ne]; omega
                    have dlt : decide ((j : Int) < (ls.length : Int)) = true := by simp; omega
                    clear hpl2 hpl
                    go_wp2
                    go_round
                    case rel => exact ⟨j + 1, by omega, by go_num, by rw [HPS.out]; simp⟩
                    case measure => simp [intOf]; omega
                  · rw [if_neg hjk, if_neg hjn] at hps hpl2
                    have HPS := Lib.hid hps
                    clear hps
                    generalize partT ls u k j = A at *
                    have dle : decide ((j : Int) ≤ (ls.length : Int)) = true := by simp; omega
                    have deq : ((j : Int) == (k : Int)) = false := by rw [beq_eq_false_iff_ne]; omega
                    have dlt : decide ((j : Int) < (ls.length : Int)) = false := by simp; omega
                    clear hpl2 hpl
                    go_wp2
                    go_round
                    case rel => exact ⟨j + 1, by omega, by go_num, by rw [HPS.out]; simp⟩
                    case measure => simp [intOf]; omega
              · obtain rfl : j = ls.length + 1 := by omega
                have dle : decide (((ls.length : Int) + 1) ≤ (ls.length : Int)) = false := by rw [decide_eq_false_iff_not]; omega
                have hpb := parse_bad (t := partT ls u k (ls.length + 1)) (k := k + 1) ⟨(partT ls u k (ls.length + 1)).toArray⟩ w4 (HG.out.below H4.out.bel) (by simp) (by have := HP2.out; omega) (by rw [HB2.out, Nat.add_comm])
                have q1 : (((k : Int) + 1) == ((k : Int) + 1)) = true := by simp
                rw [Int.natCast_succ] at hpb
                generalize partT ls u k (ls.length + 1) = A at *
                go_wp2_with fail
                refine hpb.mono ?_
                rintro e w6 ⟨rfl, hb6⟩
                have H6 := Lib.hid ((H4.out.next hb6).alloc (.cells #[.slice none 0 0, .slice none 0 0] 26))
                clear hb6
                go_wp2_with (go_at_call 9; refine (awake_any _ (HG.out.below H6.out.bel)).mono ?_; rintro e w7 ⟨rfl, hb7⟩)
                go_ret
                exact ⟨rfl, (H6.out.next hb7).bel⟩

set_option maxRecDepth 100000 in
theorem lifted (os : Os) (started : os.Started) (H : Type) (enc : TypeId × Value → H) :
    ReturnsInHanded {} Tryd.checked os 7 .any (fun w args => (Rows.graphtextNamesTheLineSpec.pre enc Tryd.prog Tryd.f7 [] false w args ∧ laidMetH Tryd.prog Rows.graphtextNamesTheLineRow.laid w) ∧ sizedMet enc Tryd.prog Tryd.f7 (OpenSpec.ofChange Rows.graphtextNamesTheLineSpec) false w args)
      (Rows.graphtextNamesTheLineSpec.post enc Tryd.prog Tryd.f7 false true false false) := by
  refine shaped_and (C := Tryd.checked) (X := fun w _ => laidMetH Tryd.prog Rows.graphtextNamesTheLineRow.laid w) (fun _ _ _ hh h => h.of_heap hh) own started (by kernel_rfl) Tryd.func7
    (ChangeSpec.witness_shaped (enc := enc) (C := Tryd.checked) (os := os) (X := fun w _ => laidMetH Tryd.prog Rows.graphtextNamesTheLineRow.laid w) false (World.laidAll Tryd.prog os Rows.graphtextNamesTheLineRow.laid) #[.agg #[.slice none 0 0, .slice none 0 0], .int .i64 0, .string ⟨#[]⟩] 8 (World.laidAll_os _ _ _)
      (World.shaped_of_ZipB (by kernel_rfl) (by kernel_rfl)) (by kernel_rfl) (by kernel_rfl) (by kernel_rfl)
      (by rw [MakeChecks.laidMetH_plain _ _ _ (by kernel_rfl)]; exact laidMet_laidAll _ (by kernel_rfl) (by kernel_rfl))) ?_
  intro W base args ds gs before hval0 hW hL hsh
  have hval : ∀ (j : Nat) t v, Tryd.f7.params[j]? = some t → args[j]? = some v → Value.okWide Tryd.prog W .any base t v := hval0
  have hW' := hW
  obtain ⟨p, q, hA0, hV, rfl, hfz, hnd⟩ := hW
  have hA : DataW.TrodAll enc Tryd.prog W 0 (fun _ => true) true Tryd.f7.params.toList args.toList ds p := hA0
  rw [Tryd.params7] at hA hval
  obtain ⟨v0, vs0, d0, ds0, p0, q0, hargs, rfl, rfl, h0, r0⟩ := trodAll_cons hA
  obtain ⟨v1, vs1, d1, ds1, p1, q1, rfl, rfl, rfl, h1, r1⟩ := trodAll_cons r0
  obtain ⟨v2, vs2, d2, ds2, p2, q2, rfl, rfl, rfl, h2, r2⟩ := trodAll_cons r1
  obtain ⟨rfl, rfl, rfl⟩ := trodAll_nil r2
  obtain rfl : args = #[v0, v1, v2] := by cases args; simp_all
  obtain ⟨rfl, rfl⟩ := trodVars_none hV
  have k0 := h0
  have lt0 : ∀ x ∈ p0, x.block < W.heap.size := by obtain ⟨m, hm⟩ := k0; exact DataW.trod_lt m _ _ _ hm
  obtain ⟨ia0, il0, ic0, pa0, pl0, pc0, G0, rfl, hG0⟩ := open_graph (hval 0 26 v0 rfl rfl) h0
  have k1 := h1
  have lt1 : ∀ x ∈ p1, x.block < W.heap.size := by obtain ⟨m, hm⟩ := k1; exact DataW.trod_lt m _ _ _ hm
  obtain ⟨a1, rfl, rfl, rfl, w1⟩ := open_int Tryd.underlying3 (hval 1 3 v1 rfl rfl) h1
  have k2 := h2
  have lt2 : ∀ x ∈ p2, x.block < W.heap.size := by obtain ⟨m, hm⟩ := k2; exact DataW.trod_lt m _ _ _ hm
  obtain ⟨a2, rfl, rfl, rfl, w2⟩ := Go.ChangeMaps.open_string Tryd.underlying9 (hval 2 9 v2 rfl rfl) h2
  clear hA0 hval0
  rw [MakeChecks.laidMetH_plain _ _ _ (by kernel_rfl)] at hL
  refine (walk W (gl_all hsh hL) ia0 il0 ic0 pa0 pl0 pc0 G0 hG0 a1 w1 a2).mono fun e W' ⟨he, bel⟩ => ?_
  subst he
  exact ⟨_, rfl, _, _, _, [], _, [], hW', trodAll_mk1 (shut_bool Tryd.underlying4 _), (trodAll_cons_mk (Below.trod laidOut (by kernel_rfl) (of_decide_eq_true (by kernel_rfl)) k0 bel lt0) (trodAll_cons_mk (Below.trod laidOut (by kernel_rfl) (of_decide_eq_true (by kernel_rfl)) k1 bel lt1) (trodAll_cons_mk (Below.trod laidOut (by kernel_rfl) (of_decide_eq_true (by kernel_rfl)) k2 bel lt2) trodAll_mk0))), rfl, bel.frame _, fun h => by cases h⟩

theorem over : Rows.graphtextNamesTheLineRow.holds Tryd.pinned (OpenSpec.ofChange Rows.graphtextNamesTheLineSpec) :=
  OpenClaim.holds_of_wide 7 Tryd.f7 rfl rfl rfl rfl rfl rfl rfl ⟨rfl, rfl, rfl, rfl, rfl⟩ rfl rfl rfl rfl rfl (by kernel_rfl) Tryd.func7 (by kernel_rfl)
    (of_decide_eq_true (by kernel_rfl)) (by unfold Func.isWrapper; first | (rw [if_pos (by decide +kernel)]; kernel_rfl) | (rw [if_neg (by decide +kernel)]; exact ⟨rfl, rfl⟩))
    (fun os started H enc _ => lifted os started H enc)

theorem proved : Rows.GraphtextNamesTheLineCardSaid :=
  Claim7.holds_tied_plain_at .later [] Rows.graphtextNamesTheLineCard.laidKinds true Rows.graphtextNamesTheLineCard.stood.harness false over (fun _ h => by cases h) (by kernel_rfl) (fun _ h => by cases h) graphtextNamesTheLine_row_tie rfl ⟨rfl, rfl⟩ (by kernel_rfl) rfl
    (fun f fn hf hfn => by
      obtain rfl : f = 7 := Option.some.inj ((show Tryd.prog.funcNamed "selfstab/selfstablaw02.GraphtextNamesTheLine" = some 7 by kernel_rfl).symm.trans hf) |>.symm
      obtain rfl : fn = Tryd.f7 := (Option.some.inj (Tryd.func7.symm.trans hfn)).symm
      exact ⟨by kernel_rfl, fun j t ht => by
        rw [Tryd.params7] at ht
        have hm : t ∈ [26, 3, 9] := by simpa using Array.mem_of_getElem? ht
        have hall : ([26, 3, 9].all fun u => !Tryd.prog.wantsStandIn u) = true := by kernel_rfl
        exact (show Tryd.prog.wantsStandIn t = false by simpa using List.all_eq_true.1 hall t hm)⟩)
    (by kernel_rfl)
end lawGraphtextNamesTheLine
end Go.Proofs.YtahhndhaciijpaaDoor
