/- What formed of the specification of layer 7 answers. -/
import Derived.Test.YtckofngclgkajaaTypF
namespace Go.Proofs.Ytckofngclgkajaa
set_option maxRecDepth 100000
open Go.RowKit

def svA (ss : List SetV) (i : Nat) : Int := (ss.map SetV.var).getD i 0
def seA (ss : List SetV) (i : Nat) : List (Int × Int) := (ss.map SetV.val).getD i []
def SetOk (ss : List SetV) (n : Nat) (i : Nat) : Prop := inF (svA ss i) 0 ((n : Int) - 1) = true ∧ validE (seA ss i) n = true ∧ ∀ k, k < i → svA ss k ≠ svA ss i
def setsF (ss : List SetV) (n : Nat) : Bool := (List.range ss.length).all fun i => inF (svA ss i) 0 ((n : Int) - 1) && (validE (seA ss i) n && (List.range i).all fun k => decide (svA ss k ≠ svA ss i))
theorem sets_iff {ss : List SetV} {n : Nat} : setsF ss n = true ↔ ∀ i, i < ss.length → SetOk ss n i := by
  unfold setsF SetOk
  simp only [List.all_eq_true, List.mem_range, Bool.and_eq_true, decide_eq_true_eq]
theorem sets_bad {ss : List SetV} {n i : Nat} (h : i < ss.length) (hb : ¬ SetOk ss n i) : setsF ss n = false := by
  rw [Bool.eq_false_iff]
  intro ht
  exact hb (sets_iff.1 ht i h)
def formedF (r : RuleV) (n : Nat) : Bool := inF (r.sets.length : Int) 1 6 && (validE r.guard n && setsF r.sets n)
theorem row_sets {w : World} {a : Option Addr} {ss : List SetV} (h : RowAt 2 SetV.cells w a ss) (hs : ∀ s ∈ ss, s.At w) (h0 : 0 < ss.length) :
    ∃ b o, a = some ⟨b, o, none⟩ ∧ ∀ w', Below w.heap.size w w' → ∀ i, i < ss.length → w'.cell? ⟨b, o + i * 2, none⟩ = some (.int .i64 (svA ss i)) ∧ ∃ x c, w'.cell? ⟨b, o + i * 2 + 1, none⟩ = some (.slice x (seA ss i).length c) ∧ LinksAt w' x (seA ss i) := by
  obtain ⟨b, o, e, hlt, hc⟩ := h.row h0
  refine ⟨b, o, e, fun w' hb i hi => ?_⟩
  have e1 : svA ss i = ss[i].var := by unfold svA; rw [List.getD_eq_getElem?_getD, List.getElem?_map, List.getElem?_eq_getElem hi]; rfl
  have e2 : seA ss i = ss[i].val := by unfold seA; rw [List.getD_eq_getElem?_getD, List.getElem?_map, List.getElem?_eq_getElem hi]; rfl
  rw [e1, e2]
  refine ⟨?_, ss[i].va, ss[i].vc, ?_, (hs _ (List.getElem_mem hi)).links.below hb⟩
  · rw [hb.cell (p := ⟨b, o + i * 2, none⟩) hlt]
    have := hc i hi 0 (by decide)
    rw [Nat.add_zero] at this
    rw [this]
    rfl
  · rw [hb.cell (p := ⟨b, o + i * 2 + 1, none⟩) hlt, hc i hi 1 (by decide)]
    rfl
/-- the world behind the making of the box of a rule -/
def Rbox (s : ByteArray) (ga : Option Addr) (n gc : Nat) (sa : Option Addr) (m sc : Nat) (w wr : World) : Prop := Below (w.heap.size + 1) (w.alloc (.cells #[.string s, .slice ga n gc, .slice sa m sc] 51)) wr
section
variable {s : ByteArray} {va ra : Option Addr} {n vc m rc : Nat} {w wr w2 : World}
theorem Rbox.cell {i : Nat} (h : Rbox s va n vc ra m rc w wr) : wr.cell? ⟨w.heap.size, i, none⟩ = (#[Value.string s, .slice va n vc, .slice ra m rc] : Array Value)[i]? := by
  have h1 := Below.cell (show Below (w.heap.size + 1) _ wr from h) (p := ⟨w.heap.size, i, none⟩) (Nat.lt_succ_self _)
  rw [h1]
  exact World.cell?_alloc_new w _ _ i
theorem Rbox.c1 (h : Rbox s va n vc ra m rc w wr) : wr.cell? ⟨w.heap.size, 1, none⟩ = some (.slice va n vc) := h.cell
theorem Rbox.c2 (h : Rbox s va n vc ra m rc w wr) : wr.cell? ⟨w.heap.size, 2, none⟩ = some (.slice ra m rc) := h.cell
theorem Rbox.bel (h : Rbox s va n vc ra m rc w wr) : Below w.heap.size w wr := (below_alloc7 w _).trans ((show Below (w.heap.size + 1) _ wr from h).mono (by omega))
theorem Rbox.next (h : Rbox s va n vc ra m rc w wr) (hb : Below wr.heap.size wr w2) : Rbox s va n vc ra m rc w w2 := Below.trans h (hb.mono (by have := Below.size h; simp at this; omega))
theorem Rbox.drew (h : Rbox s va n vc ra m rc w wr) (k : Nat) : Rbox s va n vc ra m rc w (wr.drewN k) := belDraws h k
end
set_option maxHeartbeats 8000000 in
theorem formedR_any (r : RuleV) (n : Nat) (w : World) (hR : r.At w) (hn : n ≤ 1000) (hg : r.guard.length ≤ 1000) (hs : ∀ s ∈ r.sets, s.val.length ≤ 1000) :
    Calls Try.prog 46 #[.agg #[.string r.name, .slice r.ga r.guard.length r.gc, .slice r.sa r.sets.length r.sc], .int .i64 (n : Int)] w fun e w' => e = .returned (.bool (formedF r n)) ∧ Below w.heap.size w w' := by
  obtain ⟨z, hz⟩ : ∃ z, z = formedF r n := ⟨_, rfl⟩
  rw [← hz]
  unfold formedF at hz
  obtain ⟨nm, ga, gc, guard, sa, sc, sets⟩ := r
  dsimp only at *
  obtain ⟨m, hm⟩ : ∃ m, m = sets.length := ⟨_, rfl⟩
  obtain ⟨gl, hgl⟩ : ∃ gl, gl = guard.length := ⟨_, rfl⟩
  have hlen : ∀ i, i < m → (seA sets i).length ≤ 1000 := fun i hi => by
    have hi' : i < sets.length := by omega
    have e2 : seA sets i = sets[i].val := by unfold seA; rw [List.getD_eq_getElem?_getD, List.getElem?_map, List.getElem?_eq_getElem hi']; rfl
    rw [e2]
    exact hs _ (List.getElem_mem hi')
  have HLen := Lib.hid hlen
  have HR2 : Hid (0 < m → ∃ b o, sa = some ⟨b, o, none⟩ ∧ ∀ w', Below w.heap.size w w' → ∀ i, i < m → w'.cell? ⟨b, o + i * 2, none⟩ = some (.int .i64 (svA sets i)) ∧ ∃ x c, w'.cell? ⟨b, o + i * 2 + 1, none⟩ = some (.slice x (seA sets i).length c) ∧ LinksAt w' x (seA sets i)) := Lib.hid (fun h => by
    rw [hm] at h ⊢
    exact row_sets hR.row hR.sets h)
  have HVg := Lib.hid (fun W (hb : Below w.heap.size w W) => validR_any ga gc guard n W (hR.links.below hb) hg)
  have HI0 := fun W => inR_any (sets.length : Int) 1 6 W
  have HBad : Hid (∀ i, i < m → ¬ SetOk sets n i → z = false) := Lib.hid (fun i hi hb => by rw [hz, sets_bad (by omega) hb]; simp)
  have HYes : Hid (inF (sets.length : Int) 1 6 = true → validE guard n = true → (∀ i, i < m → SetOk sets n i) → z = true) := Lib.hid (fun h1 h2 h3 => by
    rw [hz, h1, h2, sets_iff.2 (by rw [← hm]; exact h3)]
    rfl)
  have HNo : Hid (inF (sets.length : Int) 1 6 = false ∨ validE guard n = false → z = false) := Lib.hid (fun h => by
    rcases h with h | h
    · rw [hz, h]; rfl
    · rw [hz, h]; simp)
  rw [← hm, ← hgl]
  rw [← hm] at HI0 HYes HNo
  rw [← hgl] at HVg
  have hm6 : inF (m : Int) 1 6 = true → m ≤ 6 := fun h => by unfold inF at h; simp at h; omega
  have hst : Rbox nm ga gl gc sa m sc w (w.alloc (.cells #[.string nm, .slice ga gl gc, .slice sa m sc] 51)) := Below.refl _ _
  have HSt := Lib.hid hst
  have k1 := hst.c1
  have k2 := hst.c2
  clear hz hR hg hs hm hgl hlen hst
  generalize inF (m : Int) 1 6 = b0 at *
  generalize validE guard n = b1 at *
  cases b0 with
  | false =>
    have hzf := HNo.out (.inl rfl)
    subst hzf
    go_enter Try.func46, Try.ntmps46
    go_wp2_with (go_at_call 43; refine (HI0 _).mono ?_; rintro e w5 ⟨rfl, hw5⟩; have hw5' := hw5.symm; subst hw5')
    go_ret
    exact ⟨rfl, HSt.out.bel⟩
  | true =>
  cases b1 with
  | false =>
    have hzf := HNo.out (.inr rfl)
    subst hzf
    go_enter Try.func46, Try.ntmps46
    go_wp2_with (first
      | (go_at_call 43; refine (HI0 _).mono ?_; rintro e w5 ⟨rfl, hw5⟩; have hw5' := hw5.symm; subst hw5')
      | (go_at_call 25; refine (HVg.out _ HSt.out.bel).mono ?_; rintro e w6 ⟨rfl, hb6⟩))
    go_ret
    exact ⟨rfl, (HSt.out.next hb6).bel⟩
  | true =>
  have hmm := hm6 rfl
  clear hm6
  go_enter Try.func46, Try.ntmps46
  go_wp2_with (first
    | (go_at_call 43; refine (HI0 _).mono ?_; rintro e w5 ⟨rfl, hw5⟩; have hw5' := hw5.symm; subst hw5')
    | (go_at_call 25; refine (HVg.out _ HSt.out.bel).mono ?_; rintro e w6 ⟨rfl, hb6⟩; have hB6 := HSt.out.next hb6))
  go_loopw [5] (fun t wr => ∃ i : Nat, t = .int .i64 i ∧ i ≤ m ∧ (∀ j, j < i → SetOk sets n j) ∧ Rbox nm ga gl gc sa m sc w wr) (fun t _ => m - (intOf t).toNat)
  case atStart => exact ⟨0, rfl, Nat.zero_le _, (fun j h => by omega), by first | exact hB6 | exact hB6.drew _⟩
  case round =>
    obtain ⟨i, rfl, hi, hgood, hbx⟩ := hrel
    have HG := Lib.hid hgood
    have HBx := Lib.hid hbx
    have q1 := hbx.c1
    have q2 := hbx.c2
    clear hgood hbx
    by_cases hlt : i < m
    · have ilt : (i : Int) < (m : Int) := by omega
      have i0 : (0 : Int) ≤ (i : Int) := by omega
      obtain ⟨b, o, rfl, hcell⟩ := HR2.out (by omega)
      obtain ⟨s1, x, c, s2, hX⟩ := hcell _ HBx.out.bel i hlt
      have HI := fun W => inR_any (svA sets i) 0 ((n : Int) - 1) W
      have HV := Lib.hid (fun W (hb : Below wr.heap.size wr W) => validR_any x c (seA sets i) n W (hX.below hb) (HLen.out i hlt))
      have HCell := Lib.hid hcell
      clear hcell hX
      cases hin : inF (svA sets i) 0 ((n : Int) - 1) with
      | false =>
        have hzf : z = false := HBad.out i hlt (fun hok => by rw [hok.1] at hin; cases hin)
        subst hzf
        rw [hin] at HI
        clear hin
        generalize svA sets i = y at *
        generalize (seA sets i).length = l at *
        go_wp2_with (go_at_call 43; refine (HI _).mono ?_; rintro e w5 ⟨rfl, hw5⟩; have hw5' := hw5.symm; subst hw5')
        go_ret
        exact ⟨rfl, HBx.out.bel⟩
      | true =>
        cases hvd : validE (seA sets i) n with
        | false =>
          have hzf : z = false := HBad.out i hlt (fun hok => by rw [hok.2.1] at hvd; cases hvd)
          subst hzf
          rw [hin] at HI
          rw [hvd] at HV
          clear hin hvd
          generalize svA sets i = y at *
          generalize (seA sets i).length = l at *
          go_wp2_with (first
            | (go_at_call 43; refine (HI _).mono ?_; rintro e w5 ⟨rfl, hw5⟩; have hw5' := hw5.symm; subst hw5')
            | (go_at_call 25; refine (HV.out _ (Below.refl _ _)).mono ?_; rintro e w6 ⟨rfl, hb7⟩))
          go_ret
          exact ⟨rfl, (HBx.out.next hb7).bel⟩
        | true =>
          rw [hin] at HI
          rw [hvd] at HV
          have HIn := Lib.hid hin
          have HVd := Lib.hid hvd
          clear hin hvd
          generalize hl0 : (seA sets i).length = l at s2 HV
          generalize hy0 : svA sets i = y at s1 HI
          go_wp2_with (first
            | (go_at_call 43; refine (HI _).mono ?_; rintro e w5 ⟨rfl, hw5⟩; have hw5' := hw5.symm; subst hw5')
            | (go_at_call 25; refine (HV.out _ (Below.refl _ _)).mono ?_; rintro e w6 ⟨rfl, hb7⟩; have hB7 := HBx.out.next hb7))
          go_loopw [6] (fun t wr => ∃ k : Nat, t = .int .i64 k ∧ k ≤ i ∧ (∀ j, j < k → svA sets j ≠ svA sets i) ∧ Rbox nm ga gl gc (some ⟨b, o, none⟩) m sc w wr) (fun t _ => i - (intOf t).toNat)
          case atStart => exact ⟨0, rfl, Nat.zero_le _, (fun j h => by omega), by first | exact hB7 | exact hB7.drew _⟩
          case round =>
            obtain ⟨k, rfl, hk, hdiff, hbx2⟩ := hrel
            have HD := Lib.hid hdiff
            have HBx2 := Lib.hid hbx2
            have m2 := hbx2.c2
            have t1 := (HCell.out _ hbx2.bel i hlt).1
            clear hdiff hbx2
            by_cases hkl : k < i
            · have t2 := (HCell.out _ HBx2.out.bel k (by omega)).1
              have klt : (k : Int) < (i : Int) := by omega
              have kltn : (k : Int) < (m : Int) := by omega
              have kid0 : (0 : Int) ≤ (k : Int) := by omega
              by_cases he : svA sets k = svA sets i
              · have hno : z = false := HBad.out i hlt (fun hok => hok.2.2 k hkl he)
                subst hno
                rw [he] at t2
                have hse : (svA sets i == svA sets i) = true := by simp
                clear he HD
                generalize svA sets i = y2 at t1 t2 hse
                go_wp2_with fail
                go_quiet (fail)
                go_wp2
                go_ret
                exact ⟨rfl, by first | exact HBx2.out.bel | exact (HBx2.out.drew _).bel⟩
              · have hse : (svA sets k == svA sets i) = false := by simpa using he
                have HD2 : Hid (∀ j, j < k + 1 → svA sets j ≠ svA sets i) := Lib.hid (fun j hj => by
                  rcases Nat.lt_or_ge j k with h1 | h1
                  · exact HD.out j h1
                  · obtain rfl : j = k := by omega
                    exact he)
                clear he HD
                generalize hx2 : svA sets k = x2 at t2 hse
                generalize hy2 : svA sets i = y2 at t1 hse
                go_wp2_with fail
                go_quiet (fail)
                go_wp2
                go_roundw
                case rel => exact ⟨k + 1, by go_num, by omega, fun j hj => by first | exact HD2.out j hj | (rw [← hy2]; exact HD2.out j hj), by first | exact HBx2.out | exact HBx2.out.drew _⟩
                case measure => simp [intOf]; omega
            · obtain rfl : i = k := by omega
              have HG2 : Hid (∀ j, j < i + 1 → SetOk sets n j) := Lib.hid (fun j hj => by
                rcases Nat.lt_or_ge j i with h1 | h1
                · exact HG.out j h1
                · obtain rfl : j = i := by omega
                  exact ⟨HIn.out, HVd.out, HD.out⟩)
              go_wp2
              go_roundw
              case rel => exact ⟨i + 1, by go_num, by omega, HG2.out, by first | exact HBx2.out | exact HBx2.out.drew _⟩
              case measure => simp [intOf]; omega
    · obtain rfl : m = i := by omega
      have hyes : z = true := HYes.out (by first | trivial | rfl) (by first | trivial | rfl) HG.out
      subst hyes
      go_wp2
      go_ret
      exact ⟨rfl, by first | exact HBx.out.bel | exact (HBx.out.drew _).bel⟩
end Go.Proofs.Ytckofngclgkajaa
