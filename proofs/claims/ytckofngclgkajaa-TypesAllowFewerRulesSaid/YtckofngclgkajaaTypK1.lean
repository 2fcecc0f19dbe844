/- What added and wellFormed of the program's types answer. -/
import Derived.Test.YtckofngclgkajaaTypMap
import Derived.Test.YtckofngclgkajaaTypG
namespace Go.Proofs.Ytckofngclgkajaa
set_option maxRecDepth 100000
open Go.RowKit Go.Maps

theorem keyI {z : Int} (h : I64 z) : keyOf Try.prog 3 (.int .i64 z) = some (.int .i64 z) :=
  keyOf_int_mk Try.underlying3 (by simpa [Lit.wf, IntKind.min, IntKind.max, IntKind.signed, IntKind.bits, I64] using h)
theorem keyS {s : ByteArray} (h : s.size ≤ maxLen) : keyOf Try.prog 9 (.string s) = some (.string s.data.toList) := by
  simp [keyOf, mapKey, Try.underlying9, h]
theorem keyedI : Keyed Try.prog 3 := int_keyed Try.underlying3
theorem keyedS : Keyed Try.prog 9 := string_keyed Try.underlying9
set_option maxHeartbeats 2000000 in
theorem added_any (b : Nat) (L : List Lit) (s : ByteArray) (w : World) (hM : KMap 9 w b L) (hl : L.length < maxLen) (hs : s.size ≤ maxLen) :
    Calls Try.prog 64 #[.map (some b), .string s] w fun e w' => (∃ r : Bool, e = .returned (.bool r) ∧ (r = true ↔ (Lit.string s.data.toList ∉ L ∧ nameF s.data.toList = true)) ∧ (r = true → KMap 9 w' b (L ++ [.string s.data.toList]))) ∧ w.grownBy w' (some b) := by
  obtain ⟨c, hlk, hc⟩ := hM.look keyedS Try.underlying80 (keyS hs)
  have HN := fun W => name_any s W
  have HG := Lib.hid (World.grownBy.refl w (some b))
  cases c with
  | true =>
    have hin := Lib.hid (hc.1 rfl)
    clear hc hM
    go_enter Try.func64, Try.ntmps64
    go_wp2
    go_ret
    exact ⟨⟨false, rfl, ⟨fun h => (by cases h), fun h => absurd hin.out h.1⟩, fun h => by cases h⟩, HG.out⟩
  | false =>
    have hni : Hid (Lit.string s.data.toList ∉ L) := Lib.hid (fun h => by have := hc.2 h; cases this)
    clear hc
    cases hn : nameF s.data.toList with
    | false =>
      rw [hn] at HN
      have HNo := Lib.hid hn
      clear hM hn
      go_enter Try.func64, Try.ntmps64
      go_wp2_with (go_at_call 65; refine (HN _).mono ?_; rintro e w1 ⟨rfl, rfl⟩)
      go_ret
      exact ⟨⟨false, rfl, ⟨fun h => (by cases h), fun h => (by cases h.2)⟩, fun h => by cases h⟩, HG.out⟩
    | true =>
      rw [hn] at HN
      obtain ⟨D, hown, hat⟩ := hM
      have HPut := Lib.hid (fun (w1 : World) (h : w1.ownsMap Try.prog 9 (plainElem Try.prog 4) b (L.length + 1) (D.put (.string s.data.toList) (.lit (.bool true)))) => KMap.put (keyedS.key (keyS hs)) hown hat h)
      have HNo := Lib.hid hn
      clear hat hn
      go_enter Try.func64, Try.ntmps64
      go_wp2_with (first
        | (go_at_call 65; refine (HN _).mono ?_; rintro e w1 ⟨rfl, hw1⟩; have hw1' := hw1.symm; subst hw1')
        | (at_mapUpdate; refine wpList_mapUpdate_own _ rfl _ _ _ 80 rfl 9 4 keyedS Try.underlying80 (plainElem Try.prog 4) b _ D rfl hown hl _ _ _ rfl rfl (keyS hs) (.lit (.bool true)) [] (plainElem_bool Try.underlying4 true) ?_; intro w2 hown2 hg2))
      go_ret
      exact ⟨⟨true, rfl, ⟨fun _ => ⟨hni.out, by first | trivial | exact HNo.out⟩, fun _ => rfl⟩, fun _ => HPut.out _ hown2⟩, hg2⟩
/-! ### wellFormed -/
def keysI (ss : List SetV) (i : Nat) : List Lit := (List.range i).map fun j => Lit.int .i64 (svA ss j)
theorem keysI_len (ss : List SetV) (i : Nat) : (keysI ss i).length = i := by simp [keysI]
theorem keysI_succ (ss : List SetV) (i : Nat) : keysI ss (i + 1) = keysI ss i ++ [.int .i64 (svA ss i)] := by simp [keysI, List.range_succ]
theorem mem_keysI {ss : List SetV} {i : Nat} {z : Int} : Lit.int .i64 z ∈ keysI ss i ↔ ∃ j, j < i ∧ svA ss j = z := by
  unfold keysI
  simp only [List.mem_map, List.mem_range]
  constructor
  · rintro ⟨j, hj, e⟩
    injection e with _ e
    exact ⟨j, hj, e⟩
  · rintro ⟨j, hj, e⟩
    exact ⟨j, hj, by rw [e]⟩
theorem Rbox.grown {s : ByteArray} {va ra : Option Addr} {n vc m rc : Nat} {w wr w2 : World} {b : Nat} (h : Rbox s va n vc ra m rc w wr) (hg : wr.grownBy w2 (some b)) (hb : w.heap.size + 1 ≤ b) : Rbox s va n vc ra m rc w w2 :=
  Below.grown (show Below (w.heap.size + 1) _ wr from h) hg (by have := Below.size h; simpa using this) (by intro k e; injection e with e; omega)
set_option maxHeartbeats 8000000 in
theorem wellP_any (r : RuleV) (n : Nat) (w : World) (hR : r.At w) (hn : n ≤ 1000) (hg : r.guard.length ≤ 1000) (hs : ∀ s ∈ r.sets, s.val.length ≤ 1000) :
    Calls Try.prog 41 #[.agg #[.string r.name, .slice r.ga r.guard.length r.gc, .slice r.sa r.sets.length r.sc], .int .i64 (n : Int)] w fun e w' => e = .returned (.bool (formedF r n)) ∧ Below w.heap.size w w' := by
  obtain ⟨z, hz⟩ : ∃ z, z = formedF r n := ⟨_, rfl⟩
  rw [← hz]
  unfold formedF at hz
  obtain ⟨nm, ga, gc, guard, sa, sc, sets⟩ := r
  dsimp only at *
  obtain ⟨m, hm⟩ : ∃ m, m = sets.length := ⟨_, rfl⟩
  obtain ⟨gl, hgl⟩ : ∃ gl, gl = guard.length := ⟨_, rfl⟩
  have hval : ∀ i, i < m → (seA sets i).length ≤ 1000 ∧ I64 (svA sets i) := fun i hi => by
    have hi' : i < sets.length := by omega
    have e2 : seA sets i = sets[i].val := by unfold seA; rw [List.getD_eq_getElem?_getD, List.getElem?_map, List.getElem?_eq_getElem hi']; rfl
    have e1 : svA sets i = sets[i].var := by unfold svA; rw [List.getD_eq_getElem?_getD, List.getElem?_map, List.getElem?_eq_getElem hi']; rfl
    rw [e2, e1]
    exact ⟨hs _ (List.getElem_mem hi'), (hR.sets _ (List.getElem_mem hi')).fits⟩
  have HVal := Lib.hid hval
  have HR2 : Hid (0 < m → ∃ b o, sa = some ⟨b, o, none⟩ ∧ ∀ w', Below w.heap.size w w' → ∀ i, i < m → w'.cell? ⟨b, o + i * 2, none⟩ = some (.int .i64 (svA sets i)) ∧ ∃ x c, w'.cell? ⟨b, o + i * 2 + 1, none⟩ = some (.slice x (seA sets i).length c) ∧ LinksAt w' x (seA sets i)) := Lib.hid (fun h => by
    rw [hm] at h ⊢
    exact row_sets hR.row hR.sets h)
  have HVg := Lib.hid (fun W (hb : Below w.heap.size w W) => validP_any ga gc guard n W (hR.links.below hb) hg (by unfold I64; omega))
  have HBad : Hid (∀ i, i < m → ¬ SetOk sets n i → z = false) := Lib.hid (fun i hi hb => by rw [hz, sets_bad (by omega) hb]; simp)
  have HYes : Hid (1 ≤ m ∧ m ≤ 6 → validE guard n = true → (∀ i, i < m → SetOk sets n i) → z = true) := Lib.hid (fun h1 h2 h3 => by
    have h0 : inF (sets.length : Int) 1 6 = true := by unfold inF; simp; omega
    rw [hz, h0, h2, sets_iff.2 (by rw [← hm]; exact h3)]
    rfl)
  have HNo : Hid (¬ (1 ≤ m ∧ m ≤ 6) ∨ validE guard n = false → z = false) := Lib.hid (fun h => by
    rcases h with h | h
    · have h0 : inF (sets.length : Int) 1 6 = false := by rw [Bool.eq_false_iff]; unfold inF; simp; omega
      rw [hz, h0]; rfl
    · rw [hz, h]; simp)
  rw [← hm, ← hgl]
  rw [← hgl] at HVg
  have hst : Rbox nm ga gl gc sa m sc w (w.alloc (.cells #[.string nm, .slice ga gl gc, .slice sa m sc] 51)) := Below.refl _ _
  have HSt := Lib.hid hst
  have k1 := hst.c1
  have k2 := hst.c2
  have hm7 : m ≤ maxLen := by rw [hm]; exact hR.row.size
  unfold maxLen at hm7
  clear hz hR hg hs hm hgl hval hst
  generalize validE guard n = b1 at *
  by_cases hm0 : m = 0
  · have hzf := HNo.out (.inl (by omega))
    subst hzf hm0
    go_enter Try.func41, Try.ntmps41
    go_wp2
    go_ret
    exact ⟨rfl, HSt.out.bel⟩
  have m0 : ((m : Int) == 0) = false := by simp; omega
  by_cases hm6 : 6 < m
  · have hzf := HNo.out (.inl (by omega))
    subst hzf
    have m6 : (6 : Int) < (m : Int) := by omega
    clear hm0
    go_enter Try.func41, Try.ntmps41
    go_wp2
    go_ret
    exact ⟨rfl, HSt.out.bel⟩
  have m6 : decide ((6 : Int) < (m : Int)) = false := by simp; omega
  cases b1 with
  | false =>
    have hzf := HNo.out (.inr rfl)
    subst hzf
    clear hm0 hm6
    go_enter Try.func41, Try.ntmps41
    go_wp2_with (go_at_call 31; refine (HVg.out _ HSt.out.bel).mono ?_; rintro e w6 ⟨rfl, hb6⟩)
    go_ret
    exact ⟨rfl, (HSt.out.next hb6).bel⟩
  | true =>
  have HM6 : Hid (1 ≤ m ∧ m ≤ 6) := Lib.hid (by omega)
  clear hm0 hm6
  have hmm := @run_makeMap Try.prog
  go_enter Try.func41, Try.ntmps41
  go_wp2_with (go_at_call 31; refine (HVg.out _ HSt.out.bel).mono ?_; rintro e w6 ⟨rfl, hb6⟩; have hB6 := HSt.out.next hb6; have l2 : (w6.alloc (.map #[] 0)).cell? ⟨w.heap.size, 2, none⟩ = some (.slice sa m sc) := (hB6.next (below_alloc7 _ _)).c2)
  clear hmm l2
  have hgb : w.heap.size + 1 ≤ w6.heap.size := by have := Below.size hB6; simpa using this
  have hM0 := KMap.made w6 3
  have hB7 := hB6.next (below_alloc7 w6 (.map #[] 0))
  have hs7 : w6.heap.size < (w6.alloc (.map #[] 0)).heap.size := by simp
  have HM0 := Lib.hid hM0
  have HB7 := Lib.hid hB7
  clear hM0 hB7 hB6 hb6 hs7
  generalize hgbe : w6.heap.size = gb at *
  go_loopw [29] (fun t wr => ∃ i : Nat, t = .int .i64 i ∧ i ≤ m ∧ (∀ j, j < i → SetOk sets n j) ∧ Rbox nm ga gl gc sa m sc w wr ∧ KMap 3 wr gb (keysI sets i)) (fun t _ => m - (intOf t).toNat)
  case atStart => exact ⟨0, rfl, Nat.zero_le _, (fun j h => by omega), HB7.out, HM0.out⟩
  case round =>
    obtain ⟨i, rfl, hi, hgood, hbx, hmp⟩ := hrel
    have HG := Lib.hid hgood
    have HBx := Lib.hid hbx
    have HMp := Lib.hid hmp
    clear hgood hbx hmp
    by_cases hlt : i < m
    · have ilt : (i : Int) < (m : Int) := by omega
      have i0 : (0 : Int) ≤ (i : Int) := by omega
      obtain ⟨b, o, rfl, hcell⟩ := HR2.out (by omega)
      obtain ⟨s1, x, c, s2, hX⟩ := hcell _ HBx.out.bel i hlt
      have hv := HVal.out i hlt
      have hI := hv.2
      have HI := fun W => betweenP_any 0 (svA sets i) ((n : Int) - 1) W
      have HV := Lib.hid (fun W (hb : Below wr.heap.size wr W) => validP_any x c (seA sets i) n W (hX.below hb) hv.1 (by unfold I64; omega))
      have hmA := HMp.out.far (below_alloc7 wr (.cells #[.int .i64 (svA sets i), .slice x (seA sets i).length c] 54))
      obtain ⟨d, hlk, hd⟩ := hmA.look keyedI Try.underlying85 (keyI hI)
      have HMA := Lib.hid hmA
      have HD := Lib.hid hd
      have HKy := Lib.hid (keyI hI)
      clear hcell hX hv hmA hd hI
      cases d with
      | true =>
        obtain ⟨j, hj, he⟩ := mem_keysI.1 (HD.out.1 rfl)
        have hzf : z = false := HBad.out i hlt (fun hok => hok.2.2 j hj he)
        subst hzf
        clear he
        generalize svA sets i = y at *
        generalize (seA sets i).length = l at *
        go_wp2
        go_ret
        exact ⟨rfl, (HBx.out.next (below_alloc7 _ _)).bel⟩
      | false =>
      have HNew : Hid (∀ j, j < i → svA sets j ≠ svA sets i) := Lib.hid (fun j hj he => by have := HD.out.2 (mem_keysI.2 ⟨j, hj, he⟩); cases this)
      cases hin : inF (svA sets i) 0 ((n : Int) - 1) with
      | false =>
        have hzf : z = false := HBad.out i hlt (fun hok => by rw [hok.1] at hin; cases hin)
        subst hzf
        rw [hin] at HI
        clear hin
        generalize svA sets i = y at *
        generalize (seA sets i).length = l at *
        go_wp2_with (go_at_call 67; refine (HI _).mono ?_; rintro e w5 ⟨rfl, hw5⟩; have hw5' := hw5.symm; subst hw5')
        go_ret
        exact ⟨rfl, (HBx.out.next (below_alloc7 _ _)).bel⟩
      | true =>
        cases hvd : validE (seA sets i) n with
        | false =>
          have hzf : z = false := HBad.out i hlt (fun hok => by rw [hok.2.1] at hvd; cases hvd)
          subst hzf
          rw [hin] at HI
          rw [hvd] at HV
          clear hin hvd
          generalize svA sets i = y at *
          generalize (seA sets i).length = l at *
          go_wp2_with (first
            | (go_at_call 67; refine (HI _).mono ?_; rintro e w5 ⟨rfl, hw5⟩; have hw5' := hw5.symm; subst hw5')
            | (go_at_call 31; refine (HV.out _ (below_alloc7 _ _)).mono ?_; rintro e w7 ⟨rfl, hb7⟩))
          go_ret
          exact ⟨rfl, (HBx.out.next (belT hb7)).bel⟩
        | true =>
          rw [hin] at HI
          rw [hvd] at HV
          have hok : SetOk sets n i := ⟨hin, hvd, HNew.out⟩
          have HG2 : Hid (∀ j, j < i + 1 → SetOk sets n j) := Lib.hid (fun j hj => by
            rcases Nat.lt_or_ge j i with h1 | h1
            · exact HG.out j h1
            · obtain rfl : j = i := by omega
              exact hok)
          have HKs := Lib.hid (keysI_succ sets i)
          have HKl := Lib.hid (keysI_len sets i)
          clear hin hvd hok
          generalize hl0 : (seA sets i).length = l at *
          generalize hy0 : svA sets i = y at *
          go_wp2_with (first
            | (go_at_call 67; refine (HI _).mono ?_; rintro e w5 ⟨rfl, hw5⟩; have hw5' := hw5.symm; subst hw5')
            | (go_at_call 31; refine (HV.out _ (below_alloc7 _ _)).mono ?_; rintro e w7 ⟨rfl, hb7⟩; have hc7 : w7.cell? ⟨wr.heap.size, 0, none⟩ = some (.int .i64 y) := boxT hb7 0; have hm7' := HMA.out.far hb7; obtain ⟨D, hown, hat⟩ := hm7'; rw [HKl.out] at hown)
            | (at_mapUpdate; refine wpList_mapUpdate_own _ rfl _ _ _ 85 rfl 3 4 keyedI Try.underlying85 (plainElem Try.prog 4) gb _ D rfl hown (by have := HM6.out; unfold maxLen; omega) _ _ _ rfl rfl HKy.out (.lit (.bool true)) [] (plainElem_bool Try.underlying4 true) ?_; intro w8 hown8 hg8))
          go_roundw
          case rel => exact ⟨i + 1, by go_num, by omega, HG2.out, (HBx.out.next (belT hb7)).grown hg8 hgb, by
            rw [HKs.out]
            exact KMap.put (keyedI.key HKy.out) (by rw [HKl.out]; exact hown) hat (by rw [HKl.out]; exact hown8)⟩
          case measure => simp [intOf]; omega
    · obtain rfl : m = i := by omega
      have hyes : z = true := HYes.out HM6.out (by first | trivial | rfl) HG.out
      subst hyes
      go_wp2
      go_ret
      exact ⟨rfl, HBx.out.bel⟩
end Go.Proofs.Ytckofngclgkajaa
