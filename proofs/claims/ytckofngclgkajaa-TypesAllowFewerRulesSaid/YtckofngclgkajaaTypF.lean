/- What named of the specification of layer 7 answers. -/
import Derived.Test.YtckofngclgkajaaTypE
import Derived.Test.YtckofngclgkajaaLexN
import Derived.Deep.QuietTactic
import Derived.BigQuiet
namespace Go.Proofs.Ytckofngclgkajaa
set_option maxRecDepth 100000
open Go.RowKit

def nsA (ns : List ByteArray) (i : Nat) : ByteArray := ns.getD i ⟨#[]⟩
/-- all are names, and no two are the same -/
def namesF (ns : List ByteArray) : Bool := (List.range ns.length).all fun i => nameF (nsA ns i).data.toList && (List.range i).all fun k => decide (nsA ns k ≠ nsA ns i)
def NameOk (ns : List ByteArray) (i : Nat) : Prop := nameF (nsA ns i).data.toList = true ∧ ∀ k, k < i → nsA ns k ≠ nsA ns i
theorem names_iff {ns : List ByteArray} : namesF ns = true ↔ ∀ i, i < ns.length → NameOk ns i := by
  unfold namesF NameOk
  simp only [List.all_eq_true, List.mem_range, Bool.and_eq_true, decide_eq_true_eq]
theorem names_bad {ns : List ByteArray} {i : Nat} (h : i < ns.length) (hb : ¬ NameOk ns i) : namesF ns = false := by
  rw [Bool.eq_false_iff]
  intro ht
  exact hb (names_iff.1 ht i h)
def namedF (p : ProgV) : Bool := nameF p.name.data.toList && (namesF (p.vars.map VarV.name) && namesF (p.rules.map RuleV.name))
theorem row_string {α : Type} {m : Nat} {cells : α → List Value} {w : World} {a : Option Addr} {ss : List α} {nm : α → ByteArray} (h : RowAt m cells w a ss) (hm : 0 < m) (hn : ∀ s, (cells s)[0]? = some (.string (nm s))) (h0 : 0 < ss.length) :
    ∃ b o, a = some ⟨b, o, none⟩ ∧ ∀ w', Below w.heap.size w w' → ∀ i, i < ss.length → w'.cell? ⟨b, o + i * m, none⟩ = some (.string (nsA (ss.map nm) i)) := by
  obtain ⟨b, o, e, hlt, hc⟩ := h.row h0
  refine ⟨b, o, e, fun w' hb i hi => ?_⟩
  rw [(hb.cell (p := ⟨b, o + i * m, none⟩) hlt)]
  have := hc i hi 0 hm
  rw [Nat.add_zero, hn] at this
  rw [this]
  unfold nsA
  rw [List.getD_eq_getElem?_getD, List.getElem?_map, List.getElem?_eq_getElem hi]
  rfl
theorem str_ne {s t : ByteArray} (h : s ≠ t) : (s.toList == t.toList) = false := by
  rw [ByteArray.toList_eq, ByteArray.toList_eq, beq_eq_false_iff_ne]
  intro he
  exact h (by cases s; cases t; simpa using he)
theorem str_eq (s : ByteArray) : (s.toList == s.toList) = true := by simp
/-- the world behind the making of the box of a program -/
def Pbox (s : ByteArray) (va : Option Addr) (n vc : Nat) (ra : Option Addr) (m rc : Nat) (w wr : World) : Prop := Below (w.heap.size + 1) (w.alloc (.cells #[.string s, .slice va n vc, .slice ra m rc] 33)) wr
section
variable {s : ByteArray} {va ra : Option Addr} {n vc m rc : Nat} {w wr w2 : World}
theorem Pbox.cell {i : Nat} (h : Pbox s va n vc ra m rc w wr) : wr.cell? ⟨w.heap.size, i, none⟩ = (#[Value.string s, .slice va n vc, .slice ra m rc] : Array Value)[i]? := by
  have h1 := Below.cell (show Below (w.heap.size + 1) _ wr from h) (p := ⟨w.heap.size, i, none⟩) (Nat.lt_succ_self _)
  rw [h1]
  exact World.cell?_alloc_new w _ _ i
theorem Pbox.c0 (h : Pbox s va n vc ra m rc w wr) : wr.cell? ⟨w.heap.size, 0, none⟩ = some (.string s) := h.cell
theorem Pbox.c1 (h : Pbox s va n vc ra m rc w wr) : wr.cell? ⟨w.heap.size, 1, none⟩ = some (.slice va n vc) := h.cell
theorem Pbox.c2 (h : Pbox s va n vc ra m rc w wr) : wr.cell? ⟨w.heap.size, 2, none⟩ = some (.slice ra m rc) := h.cell
theorem Pbox.bel (h : Pbox s va n vc ra m rc w wr) : Below w.heap.size w wr := (below_alloc7 w _).trans ((show Below (w.heap.size + 1) _ wr from h).mono (by omega))
theorem Pbox.next (h : Pbox s va n vc ra m rc w wr) (hb : Below wr.heap.size wr w2) : Pbox s va n vc ra m rc w w2 := Below.trans h (hb.mono (by have := Below.size h; simp at this; omega))
theorem Pbox.drew (h : Pbox s va n vc ra m rc w wr) (k : Nat) : Pbox s va n vc ra m rc w (wr.drewN k) := belDraws h k
end
set_option maxHeartbeats 8000000 in
theorem namedR_any (p : ProgV) (w : World) (hP : p.At w) (hv : p.vars.length ≤ 1000) (hr : p.rules.length ≤ 1000) :
    Calls Try.prog 44 #[p.value] w fun e w' => e = .returned (.bool (namedF p)) ∧ Below w.heap.size w w' := by
  obtain ⟨r, hrr⟩ : ∃ r, r = namedF p := ⟨_, rfl⟩
  rw [← hrr]
  obtain ⟨vs, hvs⟩ : ∃ vs, vs = p.vars.map VarV.name := ⟨_, rfl⟩
  obtain ⟨rs, hrs⟩ : ∃ rs, rs = p.rules.map RuleV.name := ⟨_, rfl⟩
  have hvl : vs.length = p.vars.length := by rw [hvs, List.length_map]
  have hrl : rs.length = p.rules.length := by rw [hrs, List.length_map]
  unfold namedF at hrr
  rw [← hvs, ← hrs] at hrr
  have HBv : Hid (∀ i, i < p.vars.length → ¬ NameOk vs i → r = false) := Lib.hid (fun i hi hb => by rw [hrr, names_bad (by omega) hb]; simp)
  have HBr : Hid (∀ i, i < p.rules.length → ¬ NameOk rs i → r = false) := Lib.hid (fun i hi hb => by rw [hrr, names_bad (ns := rs) (by omega) hb]; simp)
  have HRv : Hid (0 < p.vars.length → ∃ b o, p.va = some ⟨b, o, none⟩ ∧ ∀ w', Below w.heap.size w w' → ∀ i, i < p.vars.length → w'.cell? ⟨b, o + i * 6, none⟩ = some (.string (nsA vs i))) := Lib.hid (fun h => by
    rw [hvs]
    exact row_string hP.vrow (by decide) (fun _ => rfl) h)
  have HRr : Hid (0 < p.rules.length → ∃ b o, p.ra = some ⟨b, o, none⟩ ∧ ∀ w', Below w.heap.size w w' → ∀ i, i < p.rules.length → w'.cell? ⟨b, o + i * 3, none⟩ = some (.string (nsA rs i))) := Lib.hid (fun h => by
    rw [hrs]
    exact row_string hP.rrow (by decide) (fun _ => rfl) h)
  obtain ⟨nm, va, vc, vars, ra, rc, rules⟩ := p
  dsimp only at *
  obtain ⟨nv, hnv⟩ : ∃ nv, nv = vars.length := ⟨_, rfl⟩
  obtain ⟨nr, hnr⟩ : ∃ nr, nr = rules.length := ⟨_, rfl⟩
  rw [← hnv] at HBv HRv hvl hv
  rw [← hnr] at HBr HRr hrl hr
  unfold ProgV.value
  dsimp only
  rw [← hnv, ← hnr]
  have HN0 := fun W => nameR_any nm W
  have hst : Pbox nm va nv vc ra nr rc w (w.alloc (.cells #[.string nm, .slice va nv vc, .slice ra nr rc] 33)) := Below.refl _ _
  have k0 := hst.c0
  have k1 := hst.c1
  cases h0 : nameF nm.data.toList with
  | false =>
    have hno : r = false := by rw [hrr, h0]; rfl
    subst hno
    rw [h0] at HN0
    clear hrr hP h0 hvs hrs hvl hrl hnv hnr
    go_enter Try.func44, Try.ntmps44
    go_wp2_with (go_at_call 69; refine (HN0 _).mono ?_; rintro e w5 ⟨rfl, rfl⟩)
    go_ret
    exact ⟨rfl, hst.bel⟩
  | true =>
  have HYes : Hid ((∀ i, i < nv → NameOk vs i) → (∀ i, i < nr → NameOk rs i) → r = true) := Lib.hid (fun h1 h2 => by
    rw [hrr, h0, names_iff.2 (by rw [hvl]; exact h1), names_iff.2 (by rw [hrl]; exact h2)]
    rfl)
  rw [h0] at HN0
  clear hrr hP h0 hvs hrs hvl hrl hnv hnr
  go_enter Try.func44, Try.ntmps44
  go_wp2_with (go_at_call 69; refine (HN0 _).mono ?_; rintro e w5 ⟨rfl, hw5⟩; have hw5' := hw5.symm; subst hw5')
  go_loopw [3] (fun t wr => ∃ i : Nat, t = .int .i64 i ∧ i ≤ nv ∧ (∀ j, j < i → NameOk vs j) ∧ Pbox nm va nv vc ra nr rc w wr) (fun t _ => nv - (intOf t).toNat)
  case atStart => exact ⟨0, rfl, Nat.zero_le _, (fun j h => by omega), by first | exact hst | exact hst.drew _⟩
  case round =>
    obtain ⟨i, rfl, hi, hgood, hbx⟩ := hrel
    have HG := Lib.hid hgood
    have HBx := Lib.hid hbx
    have k1 := hbx.c1
    have k2 := hbx.c2
    clear hgood hbx
    by_cases hlt : i < nv
    · have ilt : (i : Int) < (nv : Int) := by omega
      go_wp2
      obtain ⟨wo, rfl⟩ : ∃ wo : World, wo = wr := ⟨_, rfl⟩
      go_loopw [4] (fun t wr => ∃ k : Nat, t = .int .i64 k ∧ k ≤ i ∧ (∀ j, j < k → nsA vs j ≠ nsA vs i) ∧ Pbox nm va nv vc ra nr rc w wr) (fun t _ => i - (intOf t).toNat)
      case atStart => exact ⟨0, rfl, Nat.zero_le _, (fun j h => by omega), by first | exact HBx.out | exact HBx.out.drew _⟩
      case round =>
        obtain ⟨k, rfl, hk, hdiff, hbx2⟩ := hrel
        have HD := Lib.hid hdiff
        have HBx2 := Lib.hid hbx2
        have m1 := hbx2.c1
        have m2 := hbx2.c2
        obtain ⟨b, o, rfl, hcell⟩ := HRv.out (by omega)
        have s1 := hcell _ hbx2.bel i hlt
        have kid : (0 : Int) ≤ (i : Int) := by omega
        by_cases hkl : k < i
        · have s2 := hcell _ hbx2.bel k (by omega)
          have hkn : k < nv := by omega
          have klt : (k : Int) < (i : Int) := by omega
          have kltn : (k : Int) < (nv : Int) := by omega
          have kid0 : (0 : Int) ≤ (k : Int) := by omega
          by_cases he : nsA vs k = nsA vs i
          · have hno : r = false := HBv.out i hlt (fun hok => hok.2 k hkl he)
            subst hno
            have hse := str_eq (nsA vs i)
            rw [he] at s2
            clear hcell hdiff he HD
            generalize nsA vs i = y at *
            go_wp2_with fail
            go_quiet (fail)
            go_wp2
            go_ret
            exact ⟨rfl, by first | exact HBx2.out.bel | exact (HBx2.out.drew _).bel⟩
          · have hse := str_ne he
            have HD2 : Hid (∀ j, j < k + 1 → nsA vs j ≠ nsA vs i) := Lib.hid (fun j hj => by
              rcases Nat.lt_or_ge j k with h1 | h1
              · exact HD.out j h1
              · obtain rfl : j = k := by omega
                exact he)
            clear hcell hdiff he HD
            generalize hx1 : nsA vs k = x at s2 hse
            generalize hy1 : nsA vs i = y at s1 hse
            go_wp2_with fail
            go_quiet (fail)
            go_wp2
            go_roundw
            case rel => exact ⟨k + 1, by go_num, by omega, fun j hj => by first | exact HD2.out j hj | (rw [← hy1]; exact HD2.out j hj), by first | exact HBx2.out | exact HBx2.out.drew _⟩
            case measure => simp [intOf]; omega
        · obtain rfl : k = i := by omega
          have ilt2 : (k : Int) < (nv : Int) := by omega
          have HN := fun W => nameR_any (nsA vs k) W
          cases hnm : nameF (nsA vs k).data.toList with
          | false =>
            have hno : r = false := HBv.out k hlt (fun hok => by rw [hok.1] at hnm; cases hnm)
            subst hno
            rw [hnm] at HN
            clear hcell hdiff hnm HD
            generalize nsA vs k = y at *
            go_wp2_with (go_at_call 69; refine (HN _).mono ?_; rintro e w5 ⟨rfl, rfl⟩)
            go_ret
            exact ⟨rfl, by first | exact HBx2.out.bel | exact (HBx2.out.drew _).bel⟩
          | true =>
            have HG2 : Hid (∀ j, j < k + 1 → NameOk vs j) := Lib.hid (fun j hj => by
              rcases Nat.lt_or_ge j k with h1 | h1
              · exact HG.out j h1
              · obtain rfl : j = k := by omega
                exact ⟨hnm, HD.out⟩)
            rw [hnm] at HN
            clear hcell hdiff hnm HD
            generalize hy1 : nsA vs k = y at s1 HN
            go_wp2_with (go_at_call 69; refine (HN _).mono ?_; rintro e w5 ⟨rfl, rfl⟩)
            go_roundw
            case rel => exact ⟨k + 1, by go_num, by omega, HG2.out, by first | exact HBx2.out | exact HBx2.out.drew _⟩
            case measure => simp [intOf]; omega
    · obtain rfl : nv = i := by omega
      have hgoodV := HG
      go_wp2
      go_loopw [5] (fun t wr => ∃ i : Nat, t = .int .i64 i ∧ i ≤ nr ∧ (∀ j, j < i → NameOk rs j) ∧ Pbox nm va nv vc ra nr rc w wr) (fun t _ => nr - (intOf t).toNat)
      case atStart => exact ⟨0, rfl, Nat.zero_le _, (fun j h => by omega), by first | exact HBx.out | exact HBx.out.drew _⟩
      case round =>
        obtain ⟨i, rfl, hi, hgood, hbx⟩ := hrel
        have HG := Lib.hid hgood
        have HBx := Lib.hid hbx
        have k1 := hbx.c1
        have k2 := hbx.c2
        clear hgood hbx
        by_cases hlt : i < nr
        · have ilt : (i : Int) < (nr : Int) := by omega
          go_wp2
          obtain ⟨wo, rfl⟩ : ∃ wo : World, wo = wr := ⟨_, rfl⟩
          go_loopw [6] (fun t wr => ∃ k : Nat, t = .int .i64 k ∧ k ≤ i ∧ (∀ j, j < k → nsA rs j ≠ nsA rs i) ∧ Pbox nm va nv vc ra nr rc w wr) (fun t _ => i - (intOf t).toNat)
          case atStart => exact ⟨0, rfl, Nat.zero_le _, (fun j h => by omega), by first | exact HBx.out | exact HBx.out.drew _⟩
          case round =>
            obtain ⟨k, rfl, hk, hdiff, hbx2⟩ := hrel
            have HD := Lib.hid hdiff
            have HBx2 := Lib.hid hbx2
            have m1 := hbx2.c1
            have m2 := hbx2.c2
            obtain ⟨b, o, rfl, hcell⟩ := HRr.out (by omega)
            have s1 := hcell _ hbx2.bel i hlt
            have kid : (0 : Int) ≤ (i : Int) := by omega
            by_cases hkl : k < i
            · have s2 := hcell _ hbx2.bel k (by omega)
              have hkn : k < nr := by omega
              have klt : (k : Int) < (i : Int) := by omega
              have kltn : (k : Int) < (nr : Int) := by omega
              have kid0 : (0 : Int) ≤ (k : Int) := by omega
              by_cases he : nsA rs k = nsA rs i
              · have hno : r = false := HBr.out i hlt (fun hok => hok.2 k hkl he)
                subst hno
                have hse := str_eq (nsA rs i)
                rw [he] at s2
                clear hcell hdiff he HD
                generalize nsA rs i = y at *
                go_wp2_with fail
                go_quiet (fail)
                go_wp2
                go_ret
                exact ⟨rfl, by first | exact HBx2.out.bel | exact (HBx2.out.drew _).bel⟩
              · have hse := str_ne he
                have HD2 : Hid (∀ j, j < k + 1 → nsA rs j ≠ nsA rs i) := Lib.hid (fun j hj => by
                  rcases Nat.lt_or_ge j k with h1 | h1
                  · exact HD.out j h1
                  · obtain rfl : j = k := by omega
                    exact he)
                clear hcell hdiff he HD
                generalize hx1 : nsA rs k = x at s2 hse
                generalize hy1 : nsA rs i = y at s1 hse
                go_wp2_with fail
                go_quiet (fail)
                go_wp2
                go_roundw
                case rel => exact ⟨k + 1, by go_num, by omega, fun j hj => by first | exact HD2.out j hj | (rw [← hy1]; exact HD2.out j hj), by first | exact HBx2.out | exact HBx2.out.drew _⟩
                case measure => simp [intOf]; omega
            · obtain rfl : k = i := by omega
              have ilt2 : (k : Int) < (nr : Int) := by omega
              have HN := fun W => nameR_any (nsA rs k) W
              cases hnm : nameF (nsA rs k).data.toList with
              | false =>
                have hno : r = false := HBr.out k hlt (fun hok => by rw [hok.1] at hnm; cases hnm)
                subst hno
                rw [hnm] at HN
                clear hcell hdiff hnm HD
                generalize nsA rs k = y at *
                go_wp2_with (go_at_call 69; refine (HN _).mono ?_; rintro e w5 ⟨rfl, rfl⟩)
                go_ret
                exact ⟨rfl, by first | exact HBx2.out.bel | exact (HBx2.out.drew _).bel⟩
              | true =>
                have HG2 : Hid (∀ j, j < k + 1 → NameOk rs j) := Lib.hid (fun j hj => by
                  rcases Nat.lt_or_ge j k with h1 | h1
                  · exact HG.out j h1
                  · obtain rfl : j = k := by omega
                    exact ⟨hnm, HD.out⟩)
                rw [hnm] at HN
                clear hcell hdiff hnm HD
                generalize hy1 : nsA rs k = y at s1 HN
                go_wp2_with (go_at_call 69; refine (HN _).mono ?_; rintro e w5 ⟨rfl, rfl⟩)
                go_roundw
                case rel => exact ⟨k + 1, by go_num, by omega, HG2.out, by first | exact HBx2.out | exact HBx2.out.drew _⟩
                case measure => simp [intOf]; omega
        · obtain rfl : nr = i := by omega
          have hyes : r = true := HYes.out hgoodV.out HG.out
          subst hyes
          go_wp2
          go_ret
          exact ⟨rfl, by first | exact HBx.out.bel | exact (HBx.out.drew _).bel⟩
end Go.Proofs.Ytckofngclgkajaa
