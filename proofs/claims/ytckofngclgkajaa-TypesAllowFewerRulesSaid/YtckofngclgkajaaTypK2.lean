/- What named of the program's types answers. -/
import Derived.Test.YtckofngclgkajaaTypK1
namespace Go.Proofs.Ytckofngclgkajaa
set_option maxRecDepth 100000
open Go.RowKit Go.Maps

def vA (ss : List VarV) (i : Nat) : VarV := ss.getD i ⟨⟨#[]⟩, 0, 0, 0, 0, 0⟩
def rA (ss : List RuleV) (i : Nat) : RuleV := ss.getD i ⟨⟨#[]⟩, none, 0, [], none, 0, []⟩
theorem vA_eq {ss : List VarV} {i : Nat} (h : i < ss.length) : vA ss i = ss[i] := by
  unfold vA
  rw [List.getD_eq_getElem?_getD, List.getElem?_eq_getElem h]
  rfl
theorem rA_eq {ss : List RuleV} {i : Nat} (h : i < ss.length) : rA ss i = ss[i] := by
  unfold rA
  rw [List.getD_eq_getElem?_getD, List.getElem?_eq_getElem h]
  rfl
theorem vA_name {ss : List VarV} {i : Nat} (h : i < ss.length) : nsA (ss.map VarV.name) i = (vA ss i).name := by
  rw [vA_eq h]
  unfold nsA
  rw [List.getD_eq_getElem?_getD, List.getElem?_map, List.getElem?_eq_getElem h]
  rfl
theorem rA_name {ss : List RuleV} {i : Nat} (h : i < ss.length) : nsA (ss.map RuleV.name) i = (rA ss i).name := by
  rw [rA_eq h]
  unfold nsA
  rw [List.getD_eq_getElem?_getD, List.getElem?_map, List.getElem?_eq_getElem h]
  rfl
theorem row_var {w : World} {a : Option Addr} {ss : List VarV} (h : RowAt 6 VarV.cells w a ss) (h0 : 0 < ss.length) :
    ∃ b o, a = some ⟨b, o, none⟩ ∧ ∀ w', Below w.heap.size w w' → ∀ i, i < ss.length → w'.cell? ⟨b, o + i * 6, none⟩ = some (.string (vA ss i).name) ∧ w'.cell? ⟨b, o + i * 6 + 1, none⟩ = some (.int .i64 (vA ss i).kind) ∧ w'.cell? ⟨b, o + i * 6 + 2, none⟩ = some (.int .i64 (vA ss i).lo) ∧
      w'.cell? ⟨b, o + i * 6 + 3, none⟩ = some (.int .i64 (vA ss i).hi) ∧ w'.cell? ⟨b, o + i * 6 + 4, none⟩ = some (.int .i64 (vA ss i).pn) ∧ w'.cell? ⟨b, o + i * 6 + 5, none⟩ = some (.int .i64 (vA ss i).pid) := by
  obtain ⟨b, o, e, hlt, hc⟩ := h.row h0
  refine ⟨b, o, e, fun w' hb i hi => ?_⟩
  have key : ∀ j, j < 6 → w'.cell? ⟨b, o + i * 6 + j, none⟩ = (VarV.cells (vA ss i))[j]? := fun j hj => by
    rw [vA_eq hi]
    exact (hb.cell (p := ⟨b, o + i * 6 + j, none⟩) hlt).trans (hc i hi j hj)
  exact ⟨key 0 (by decide), key 1 (by decide), key 2 (by decide), key 3 (by decide), key 4 (by decide), key 5 (by decide)⟩
theorem row_rule {w : World} {a : Option Addr} {ss : List RuleV} (h : RowAt 3 RuleV.cells w a ss) (h0 : 0 < ss.length) :
    ∃ b o, a = some ⟨b, o, none⟩ ∧ ∀ w', Below w.heap.size w w' → ∀ i, i < ss.length → w'.cell? ⟨b, o + i * 3, none⟩ = some (.string (rA ss i).name) ∧ w'.cell? ⟨b, o + i * 3 + 1, none⟩ = some (.slice (rA ss i).ga (rA ss i).guard.length (rA ss i).gc) ∧
      w'.cell? ⟨b, o + i * 3 + 2, none⟩ = some (.slice (rA ss i).sa (rA ss i).sets.length (rA ss i).sc) := by
  obtain ⟨b, o, e, hlt, hc⟩ := h.row h0
  refine ⟨b, o, e, fun w' hb i hi => ?_⟩
  have key : ∀ j, j < 3 → w'.cell? ⟨b, o + i * 3 + j, none⟩ = (RuleV.cells (rA ss i))[j]? := fun j hj => by
    rw [rA_eq hi]
    exact (hb.cell (p := ⟨b, o + i * 3 + j, none⟩) hlt).trans (hc i hi j hj)
  exact ⟨key 0 (by decide), key 1 (by decide), key 2 (by decide)⟩
def keysS (ns : List ByteArray) (i : Nat) : List Lit := (List.range i).map fun j => Lit.string (nsA ns j).data.toList
theorem keysS_len (ns : List ByteArray) (i : Nat) : (keysS ns i).length = i := by simp [keysS]
theorem keysS_succ (ns : List ByteArray) (i : Nat) : keysS ns (i + 1) = keysS ns i ++ [.string (nsA ns i).data.toList] := by simp [keysS, List.range_succ]
theorem mem_keysS {ns : List ByteArray} {i : Nat} {s : ByteArray} : Lit.string s.data.toList ∈ keysS ns i ↔ ∃ j, j < i ∧ nsA ns j = s := by
  unfold keysS
  simp only [List.mem_map, List.mem_range]
  constructor
  · rintro ⟨j, hj, e⟩
    injection e with e
    refine ⟨j, hj, ?_⟩
    generalize nsA ns j = u at *
    cases u; cases s
    simpa using e
  · rintro ⟨j, hj, e⟩
    exact ⟨j, hj, by rw [e]⟩
theorem name_ok_iff {ns : List ByteArray} {i : Nat} : NameOk ns i ↔ (Lit.string (nsA ns i).data.toList ∉ keysS ns i ∧ nameF (nsA ns i).data.toList = true) := by
  unfold NameOk
  constructor
  · rintro ⟨h1, h2⟩
    exact ⟨fun h => (mem_keysS.1 h).elim fun j hj => h2 j hj.1 hj.2, h1⟩
  · rintro ⟨h1, h2⟩
    exact ⟨h2, fun k hk e => h1 (mem_keysS.2 ⟨k, hk, e⟩)⟩
theorem added_yes {ns : List ByteArray} {i b : Nat} {w : World} (hok : NameOk ns i) (hM : KMap 9 w b (keysS ns i)) (hl : i < maxLen) (hs : (nsA ns i).size ≤ maxLen) :
    Calls Try.prog 64 #[.map (some b), .string (nsA ns i)] w fun e w' => (e = .returned (.bool true) ∧ KMap 9 w' b (keysS ns (i + 1))) ∧ w.grownBy w' (some b) :=
  (added_any b (keysS ns i) (nsA ns i) w hM (by rw [keysS_len]; exact hl) hs).mono fun e w' => by
    rintro ⟨⟨r, rfl, hr, hk⟩, hg⟩
    have hr1 := hr.2 (name_ok_iff.1 hok)
    subst hr1
    exact ⟨⟨rfl, by rw [keysS_succ]; exact hk rfl⟩, hg⟩
theorem added_no {ns : List ByteArray} {i b : Nat} {w : World} (hok : ¬ NameOk ns i) (hM : KMap 9 w b (keysS ns i)) (hl : i < maxLen) (hs : (nsA ns i).size ≤ maxLen) :
    Calls Try.prog 64 #[.map (some b), .string (nsA ns i)] w fun e w' => e = .returned (.bool false) ∧ w.grownBy w' (some b) :=
  (added_any b (keysS ns i) (nsA ns i) w hM (by rw [keysS_len]; exact hl) hs).mono fun e w' => by
    rintro ⟨⟨r, rfl, hr, hk⟩, hg⟩
    have hr1 : r = false := by
      rw [Bool.eq_false_iff]
      exact fun h => hok (name_ok_iff.2 (hr.1 h))
    subst hr1
    exact ⟨rfl, hg⟩
theorem Pbox.grown {s : ByteArray} {va ra : Option Addr} {n vc m rc : Nat} {w wr w2 : World} {b : Nat} (h : Pbox s va n vc ra m rc w wr) (hg : wr.grownBy w2 (some b)) (hb : w.heap.size + 1 ≤ b) : Pbox s va n vc ra m rc w w2 :=
  Below.grown (show Below (w.heap.size + 1) _ wr from h) hg (by have := Below.size h; simpa using this) (by intro k e; injection e with e; omega)
set_option maxHeartbeats 8000000 in
theorem namedP_any (p : ProgV) (w : World) (hP : p.At w) (hv : p.vars.length ≤ 1000) (hr : p.rules.length ≤ 1000) :
    Calls Try.prog 35 #[p.value] w fun e w' => e = .returned (.bool (namedF p)) ∧ Below w.heap.size w w' := by
  obtain ⟨z, hz⟩ : ∃ z, z = namedF p := ⟨_, rfl⟩
  rw [← hz]
  have HSv : Hid (∀ i, i < p.vars.length → (nsA (p.vars.map VarV.name) i).size ≤ maxLen ∧ nsA (p.vars.map VarV.name) i = (vA p.vars i).name) := Lib.hid (fun i hi => by
    rw [vA_name hi, vA_eq hi]
    exact ⟨(hP.vars _ (List.getElem_mem hi)).1, rfl⟩)
  have HSr : Hid (∀ i, i < p.rules.length → (nsA (p.rules.map RuleV.name) i).size ≤ maxLen ∧ nsA (p.rules.map RuleV.name) i = (rA p.rules i).name) := Lib.hid (fun i hi => by
    rw [rA_name hi, rA_eq hi]
    exact ⟨(hP.rules _ (List.getElem_mem hi)).fits, rfl⟩)
  have HRv := Lib.hid (fun h => row_var hP.vrow h)
  have HRr := Lib.hid (fun h => row_rule hP.rrow h)
  obtain ⟨vs, hvs⟩ : ∃ vs, vs = p.vars.map VarV.name := ⟨_, rfl⟩
  obtain ⟨rs, hrs⟩ : ∃ rs, rs = p.rules.map RuleV.name := ⟨_, rfl⟩
  have hvl : vs.length = p.vars.length := by rw [hvs, List.length_map]
  have hrl : rs.length = p.rules.length := by rw [hrs, List.length_map]
  unfold namedF at hz
  rw [← hvs, ← hrs] at hz
  rw [← hvs] at HSv
  rw [← hrs] at HSr
  have HBv : Hid (∀ i, i < p.vars.length → ¬ NameOk vs i → z = false) := Lib.hid (fun i hi hb => by rw [hz, names_bad (by omega) hb]; simp)
  have HBr : Hid (∀ i, i < p.rules.length → ¬ NameOk rs i → z = false) := Lib.hid (fun i hi hb => by rw [hz, names_bad (ns := rs) (by omega) hb]; simp)
  have HYes : Hid ((∀ i, i < p.vars.length → NameOk vs i) → (∀ i, i < p.rules.length → NameOk rs i) → z = nameF p.name.data.toList) := Lib.hid (fun h1 h2 => by
    rw [hz, names_iff.2 (by rw [hvl]; exact h1), names_iff.2 (by rw [hrl]; exact h2)]
    simp)
  clear hz hvs hrs hvl hrl hP
  obtain ⟨nm, va, vc, vars, ra, rc, rules⟩ := p
  dsimp only at *
  unfold ProgV.value
  dsimp only
  generalize vars.length = nv at *
  generalize rules.length = nr at *
  have HN0 := fun W => name_any nm W
  have hst : Pbox nm va nv vc ra nr rc w (w.alloc (.cells #[.string nm, .slice va nv vc, .slice ra nr rc] 33)) := Below.refl _ _
  have hs1 : (w.alloc (.cells #[.string nm, .slice va nv vc, .slice ra nr rc] 33)).heap.size = w.heap.size + 1 := by simp
  obtain ⟨w1, hw1⟩ : ∃ w1, w1 = w.alloc (.cells #[.string nm, .slice va nv vc, .slice ra nr rc] 33) := ⟨_, rfl⟩
  have hM1 := KMap.made w1 9
  have hM2 := KMap.made (w1.alloc (.map #[] 0)) 9
  have hM1' := hM1.far (below_alloc7 (w1.alloc (.map #[] 0)) (.map #[] 0))
  rw [← hw1] at hst hs1
  have hB3 := (hst.next (below_alloc7 w1 (.map #[] 0))).next (below_alloc7 (w1.alloc (.map #[] 0)) (.map #[] 0))
  have hs2 : (w1.alloc (.map #[] 0)).heap.size = w.heap.size + 1 + 1 := by rw [World.size_alloc, hs1]
  rw [hs1] at hM1 hM1'
  rw [hs2] at hM2
  rw [hw1] at hM1' hM2 hB3
  have l1 := hB3.c1
  have HM1 := Lib.hid hM1'
  have HM2 := Lib.hid hM2
  have HB3 := Lib.hid hB3
  clear hM1 hM1' hM2 hB3 hst hs1 hs2 hw1 w1
  have hmm := @run_makeMap Try.prog
  go_enter Try.func35, Try.ntmps35
  go_wp2
  clear hmm l1
  go_loopw [14] (fun t wr => ∃ i : Nat, t = .int .i64 i ∧ i ≤ nv ∧ (∀ j, j < i → NameOk vs j) ∧ Pbox nm va nv vc ra nr rc w wr ∧ KMap 9 wr (w.heap.size + 1) (keysS vs i) ∧ KMap 9 wr (w.heap.size + 1 + 1) []) (fun t _ => nv - (intOf t).toNat)
  case atStart => exact ⟨0, rfl, Nat.zero_le _, (fun j h => by omega), HB3.out, HM1.out, HM2.out⟩
  case round =>
    obtain ⟨i, rfl, hi, hgood, hbx, hm1, hm2⟩ := hrel
    have HG := Lib.hid hgood
    have HBx := Lib.hid hbx
    have HMa := Lib.hid hm1
    have HMb := Lib.hid hm2
    clear hgood hm1 hm2
    have q2 := hbx.c2
    clear hbx
    by_cases hlt : i < nv
    · have ilt : (i : Int) < (nv : Int) := by omega
      have i0 : (0 : Int) ≤ (i : Int) := by omega
      obtain ⟨b, o, rfl, hcell⟩ := HRv.out (by omega)
      obtain ⟨s0, s1, s2, s3, s4, s5⟩ := hcell _ HBx.out.bel i hlt
      obtain ⟨hsz, hnm⟩ := HSv.out i hlt
      rw [← hnm] at s0
      clear hcell
      by_cases hok : NameOk vs i
      · have HAd := Lib.hid (added_yes hok (HMa.out.far (below_alloc7 wr (.cells #[.string (nsA vs i), .int .i64 (vA vars i).kind, .int .i64 (vA vars i).lo, .int .i64 (vA vars i).hi, .int .i64 (vA vars i).pn, .int .i64 (vA vars i).pid] 56))) (by unfold maxLen; omega) hsz)
        have HG2 : Hid (∀ j, j < i + 1 → NameOk vs j) := Lib.hid (fun j hj => by
          rcases Nat.lt_or_ge j i with h1 | h1
          · exact HG.out j h1
          · obtain rfl : j = i := by omega
            exact hok)
        clear hok hsz hnm
        generalize nsA vs i = y at *
        go_wp2_with (go_at_call 64; refine HAd.out.mono ?_; rintro e w8 ⟨⟨rfl, hk8⟩, hg8⟩)
        go_roundw
        case rel => exact ⟨i + 1, by go_num, by omega, HG2.out, (HBx.out.next (below_alloc7 _ _)).grown hg8 (Nat.le_refl _), hk8, (HMb.out.far (below_alloc7 _ _)).kept hg8 (by intro e; injection e with e; omega)⟩
        case measure => simp [intOf]; omega
      · have HAd := Lib.hid (added_no hok (HMa.out.far (below_alloc7 wr (.cells #[.string (nsA vs i), .int .i64 (vA vars i).kind, .int .i64 (vA vars i).lo, .int .i64 (vA vars i).hi, .int .i64 (vA vars i).pn, .int .i64 (vA vars i).pid] 56))) (by unfold maxLen; omega) hsz)
        have hzf := HBv.out i hlt hok
        subst hzf
        clear hok hsz hnm
        generalize nsA vs i = y at *
        go_wp2_with (go_at_call 64; refine HAd.out.mono ?_; rintro e w8 ⟨rfl, hg8⟩)
        go_ret
        exact ⟨rfl, ((HBx.out.next (below_alloc7 _ _)).grown hg8 (Nat.le_refl _)).bel⟩
    · obtain rfl : nv = i := by omega
      have HGV := HG
      go_wp2
      obtain ⟨wo, rfl⟩ : ∃ wo : World, wo = wr := ⟨_, rfl⟩
      go_loopw [27] (fun t wr => ∃ i : Nat, t = .int .i64 i ∧ i ≤ nr ∧ (∀ j, j < i → NameOk rs j) ∧ Pbox nm va nv vc ra nr rc w wr ∧ KMap 9 wr (w.heap.size + 1 + 1) (keysS rs i)) (fun t _ => nr - (intOf t).toNat)
      case atStart => exact ⟨0, rfl, Nat.zero_le _, (fun j h => by omega), HBx.out, HMb.out⟩
      case round =>
        obtain ⟨i, rfl, hi, hgood, hbx, hm2⟩ := hrel
        have HG := Lib.hid hgood
        have HBx := Lib.hid hbx
        have HMb := Lib.hid hm2
        clear hgood hm2
        have q0 := hbx.c0
        clear hbx
        by_cases hlt : i < nr
        · have ilt : (i : Int) < (nr : Int) := by omega
          have i0 : (0 : Int) ≤ (i : Int) := by omega
          obtain ⟨b, o, rfl, hcell⟩ := HRr.out (by omega)
          obtain ⟨s0, s1, s2⟩ := hcell _ HBx.out.bel i hlt
          obtain ⟨hsz, hnm⟩ := HSr.out i hlt
          rw [← hnm] at s0
          clear hcell
          by_cases hok : NameOk rs i
          · have HAd := Lib.hid (added_yes hok (HMb.out.far (below_alloc7 wr (.cells #[.string (nsA rs i), .slice (rA rules i).ga (rA rules i).guard.length (rA rules i).gc, .slice (rA rules i).sa (rA rules i).sets.length (rA rules i).sc] 51))) (by unfold maxLen; omega) hsz)
            have HG2 : Hid (∀ j, j < i + 1 → NameOk rs j) := Lib.hid (fun j hj => by
              rcases Nat.lt_or_ge j i with h1 | h1
              · exact HG.out j h1
              · obtain rfl : j = i := by omega
                exact hok)
            clear hok hsz hnm
            generalize nsA rs i = y at *
            go_wp2_with (go_at_call 64; refine HAd.out.mono ?_; rintro e w8 ⟨⟨rfl, hk8⟩, hg8⟩)
            go_roundw
            case rel => exact ⟨i + 1, by go_num, by omega, HG2.out, (HBx.out.next (below_alloc7 _ _)).grown hg8 (by omega), hk8⟩
            case measure => simp [intOf]; omega
          · have HAd := Lib.hid (added_no hok (HMb.out.far (below_alloc7 wr (.cells #[.string (nsA rs i), .slice (rA rules i).ga (rA rules i).guard.length (rA rules i).gc, .slice (rA rules i).sa (rA rules i).sets.length (rA rules i).sc] 51))) (by unfold maxLen; omega) hsz)
            have hzf := HBr.out i hlt hok
            subst hzf
            clear hok hsz hnm
            generalize nsA rs i = y at *
            go_wp2_with (go_at_call 64; refine HAd.out.mono ?_; rintro e w8 ⟨rfl, hg8⟩)
            go_ret
            exact ⟨rfl, ((HBx.out.next (below_alloc7 _ _)).grown hg8 (by omega)).bel⟩
        · obtain rfl : nr = i := by omega
          have hyes := HYes.out HGV.out HG.out
          subst hyes
          go_wp2_with (go_at_call 65; refine (HN0 _).mono ?_; rintro e w9 ⟨rfl, hw9⟩; have hw9' := hw9.symm; subst hw9')
          go_ret
          exact ⟨rfl, HBx.out.bel⟩
end Go.Proofs.Ytckofngclgkajaa
