/- The reader of the program's types in memory; what operands of it answers. -/
import Derived.Test.YtckofngclgkajaaTypP1
namespace Go.Proofs.Ytckofngclgkajaa
set_option maxRecDepth 100000
open Go.RowKit

theorem grown_set7 (w : World) (b i : Nat) (v : Value) : w.grownBy (w.setCell ⟨b, i, none⟩ v) (some b) :=
  ⟨rfl, rfl, rfl, by simp [World.setCell], fun k _ hne => Below.heap_setCell w _ _ k (by intro e; exact hne (by rw [e]))⟩
theorem grown_below {w w' : World} (h : Below w.heap.size w w') (r : Option Nat) : w.grownBy w' r := ⟨h.os, h.tape, h.output, h.size, fun k hk _ => h.block k hk⟩
theorem size_set7 (w : World) (a : Addr) (v : Value) : (w.setCell a v).heap.size = w.heap.size := by simp [World.setCell]
/-- the reader's struct at a place of the list, behind the old world -/
structure RAt (S : Src7) (p : Nat) (w : World) : Prop where
  bel : Below S.w.heap.size S.w w
  lt : S.w.heap.size < w.heap.size
  c0 : ∃ q, w.cell? ⟨S.w.heap.size, 0, none⟩ = some (.slice q (S.xs.length - p) (S.c - p)) ∧ (p < S.xs.length → q = some ⟨S.b, S.o + p * 2, none⟩)
  c1 : w.cell? ⟨S.w.heap.size, 1, none⟩ = some (.slice S.ka S.ks.length S.kc)
  f0 : w.frozen? ⟨S.w.heap.size, 0, none⟩ = false
  low : p ≤ S.xs.length
theorem RAt.far {S : Src7} {p : Nat} {w w' : World} (h : RAt S p w) (hb : Below w.heap.size w w') : RAt S p w' := by
  have hl := h.lt
  obtain ⟨q, hq, e⟩ := h.c0
  exact ⟨h.bel.trans (hb.mono (Nat.le_of_lt hl)), Nat.lt_of_lt_of_le hl hb.size, ⟨q, (hb.cell (p := ⟨S.w.heap.size, 0, none⟩) hl).trans hq, e⟩, (hb.cell (p := ⟨S.w.heap.size, 1, none⟩) hl).trans h.c1, (hb.frozen (p := ⟨S.w.heap.size, 0, none⟩) hl).trans h.f0, h.low⟩
theorem RAt.drew {S : Src7} {p : Nat} {w : World} (h : RAt S p w) (n : Nat) : RAt S p (w.drewN n) := h.far (belDraws (Below.refl _ _) n)
theorem RAt.grown {S : Src7} {p : Nat} {w w' : World} (h : RAt S p w) (hg : w.grownBy w' (some S.w.heap.size)) : Below S.w.heap.size S.w w' :=
  h.bel.grown hg (Nat.le_of_lt h.lt) (by intro k e; injection e with e; omega)
theorem RAt.set {S : Src7} {p : Nat} {w : World} (h : RAt S p w) (hp : p < S.xs.length) (q : Option Addr) (n c : Nat) (hn : n = S.xs.length - (p + 1)) (hc : c = S.c - (p + 1)) (hq : p + 1 < S.xs.length → q = some ⟨S.b, S.o + (p + 1) * 2, none⟩) : RAt S (p + 1) (w.setCell ⟨S.w.heap.size, 0, none⟩ (.slice q n c)) := by
  obtain ⟨q0, h0, _⟩ := h.c0
  refine ⟨h.bel.setCell (Nat.le_refl _) _, by rw [size_set7]; exact h.lt, ⟨q, ?_, hq⟩, (set_other (by simp)).trans h.c1, by rw [World.frozen?_setCell]; exact h.f0, hp⟩
  rw [hn, hc]
  exact set_same h0
/-- what next does: the type; where it is none, the place is left open -/
def Nxt (S : Src7) (p : Nat) (b : Bool) (z : Int) (m : Nat) : Prop := ∀ w, RAt S p w →
  Calls Try.prog 60 #[.pointer (some ⟨S.w.heap.size, 0, none⟩), .bool b] w fun e w' => e = .returned (.int .i64 z) ∧ (z ≠ 0 → RAt S m w') ∧ w.grownBy w' (some S.w.heap.size)
/-- the open type behind one operand; none: it is wrong -/
def opsS (k z o : Int) : Option Int := if z = 0 then none else if k = 4 then (if o = 0 then some z else if z = o then some o else none) else (if z = k then some o else none)
def opsO : List Int → List Int → Int → Option Int
  | k :: ws, z :: zs, o => (opsS k z o).bind (opsO ws zs)
  | _, _, o => some o
theorem opsO_drop {ws zs : List Int} {k : Nat} (hl : zs.length = ws.length) (hk : k < ws.length) (o : Int) : opsO (ws.drop k) (zs.drop k) o = (opsS (idA ws k) (idA zs k) o).bind (opsO (ws.drop (k + 1)) (zs.drop (k + 1))) := by
  rw [List.drop_eq_getElem_cons hk, List.drop_eq_getElem_cons (by omega : k < zs.length)]
  unfold idA
  rw [List.getD_eq_getElem?_getD, List.getElem?_eq_getElem hk, List.getD_eq_getElem?_getD, List.getElem?_eq_getElem (by omega : k < zs.length)]
  rfl
theorem opsO_end {ws zs : List Int} {o : Int} : opsO (ws.drop ws.length) (zs.drop ws.length) o = some o := by
  rw [List.drop_length]
  rfl
set_option maxHeartbeats 2000000 in
theorem opsP_any (S : Src7) (b : Bool) (ws zs : List Int) (pl : Nat → Nat) (hl : zs.length = ws.length) (h3 : ws.length ≤ 3) (hN : ∀ k, k < ws.length → Nxt S (pl k) b (idA zs k) (pl (k + 1)))
    (g : Nat) (w : World) (hR : RAt S (pl 0) w) (hg : S.w.heap.size < g) (hc : ∀ k, k < ws.length → w.cell? ⟨g, k, none⟩ = some (.int .i64 (idA ws k))) :
    Calls Try.prog 79 #[.pointer (some ⟨S.w.heap.size, 0, none⟩), .slice (some ⟨g, 0, none⟩) ws.length 3, .bool b] w fun e w' =>
      e = .returned (.tuple #[.int .i64 ((opsO ws zs 0).getD 0), .bool (opsO ws zs 0).isSome]) ∧ ((opsO ws zs 0).isSome = true → RAt S (pl ws.length) w') ∧ w.grownBy w' (some S.w.heap.size) := by
  have H0 : opsO (ws.drop 0) (zs.drop 0) 0 = opsO ws zs 0 := rfl
  generalize opsO ws zs 0 = R at H0 ⊢
  have HStep := Lib.hid (fun (k : Nat) (hk : k < ws.length) (o : Int) => opsO_drop (zs := zs) hl hk o)
  have HEnd := Lib.hid (fun (o : Int) => opsO_end (ws := ws) (zs := zs) (o := o))
  have HN := Lib.hid hN
  have HC := Lib.hid (fun (wr : World) (hgr : w.grownBy wr (some S.w.heap.size)) (k : Nat) (hk : k < ws.length) => World.grownBy.cell hgr (hc k hk) (by intro e; injection e with e; dsimp only at e; omega))
  have HR := Lib.hid hR
  have HG0 := Lib.hid (World.grownBy.refl w (some S.w.heap.size))
  have HS0 := Lib.hid H0
  clear hl hN hc hR H0
  unfold Nxt at HN
  generalize ws.length = m at *
  generalize hrb : S.w.heap.size = rb at *
  go_enter Try.func79, Try.ntmps79
  go_wp2
  go_loopw [6, 13] (fun to ti wr => ∃ (k : Nat) (o : Int), to = .int .i64 o ∧ ti = .int .i64 k ∧ k ≤ m ∧ opsO (ws.drop k) (zs.drop k) o = R ∧ RAt S (pl k) wr ∧ w.grownBy wr (some rb)) (fun _ t _ => m - (intOf t).toNat)
  case atStart => exact ⟨0, 0, rfl, rfl, Nat.zero_le _, HS0.out, HR.out, HG0.out⟩
  case round =>
    obtain ⟨k, o, rfl, rfl, hk, hst, hrt, hgr⟩ := hrel
    have HRt := Lib.hid hrt
    have HGr := Lib.hid hgr
    by_cases hlt : k < m
    · have hcell := HC.out wr hgr k hlt
      rw [HStep.out k hlt] at hst
      have hn := HN.out k hlt wr hrt
      have HSt := Lib.hid hst
      have klt : (k : Int) < (m : Int) := by omega
      have k0 : (0 : Int) ≤ (k : Int) := by omega
      clear hst hrt hgr
      generalize idA ws k = q at *
      generalize idA zs k = z at *
      by_cases z0 : z = 0
      · subst z0
        have hR0 : R = none := by rw [← HSt.out]; rfl
        subst hR0
        by_cases q4 : q = 4
        · subst q4
          by_cases o0 : o = 0
          · subst o0
            go_wp2_with (go_at_call 60; refine hn.mono ?_; rintro e w2 ⟨rfl, hz, hg2⟩)
            go_ret2
            exact ⟨rfl, (fun h => by cases h), HGr.out.trans hg2⟩
          · have o1 : (o == 0) = false := by simp; omega
            go_wp2_with (go_at_call 60; refine hn.mono ?_; rintro e w2 ⟨rfl, hz, hg2⟩)
            go_ret2
            exact ⟨rfl, (fun h => by cases h), HGr.out.trans hg2⟩
        · have q1 : (q == 4) = false := by simp; omega
          go_wp2_with (go_at_call 60; refine hn.mono ?_; rintro e w2 ⟨rfl, hz, hg2⟩)
          go_ret2
          exact ⟨rfl, (fun h => by cases h), HGr.out.trans hg2⟩
      · have z1 : (z == 0) = false := by simp; omega
        by_cases q4 : q = 4
        · subst q4
          by_cases o0 : o = 0
          · subst o0
            have hs : opsS 4 z 0 = some z := by unfold opsS; rw [if_neg z0, if_pos rfl, if_pos rfl]
            have hnx := HSt.out
            rw [hs, Option.bind_some] at hnx
            have HNx := Lib.hid hnx
            have zz : (z != z) = false := by simp
            clear hs hnx HSt
            go_wp2_with (go_at_call 60; refine hn.mono ?_; rintro e w2 ⟨rfl, hz, hg2⟩)
            go_roundw
            case rel => exact ⟨k + 1, z, rfl, by go_num, by omega, HNx.out, hz z0, HGr.out.trans hg2⟩
            case measure => simp [intOf]; omega
          · have o1 : (o == 0) = false := by simp; omega
            by_cases zo : z = o
            · subst zo
              have hs : opsS 4 z z = some z := by unfold opsS; rw [if_neg z0, if_pos rfl, if_neg z0, if_pos rfl]
              have hnx := HSt.out
              rw [hs, Option.bind_some] at hnx
              have HNx := Lib.hid hnx
              have zz : (z != z) = false := by simp
              clear hs hnx HSt
              go_wp2_with (go_at_call 60; refine hn.mono ?_; rintro e w2 ⟨rfl, hz, hg2⟩)
              go_roundw
              case rel => exact ⟨k + 1, z, rfl, by go_num, by omega, HNx.out, hz z0, HGr.out.trans hg2⟩
              case measure => simp [intOf]; omega
            · have hs : opsS 4 z o = none := by unfold opsS; rw [if_neg z0, if_pos rfl, if_neg o0, if_neg zo]
              have hR0 : R = none := by rw [← HSt.out, hs]; rfl
              subst hR0
              have zz : (z != o) = true := by simpa using zo
              clear hs HSt zo
              go_wp2_with (go_at_call 60; refine hn.mono ?_; rintro e w2 ⟨rfl, hz, hg2⟩)
              go_ret2
              exact ⟨rfl, (fun h => by cases h), HGr.out.trans hg2⟩
        · have q1 : (q == 4) = false := by simp; omega
          by_cases zq : z = q
          · subst zq
            have hs : opsS z z o = some o := by unfold opsS; rw [if_neg z0, if_neg q4, if_pos rfl]
            have hnx := HSt.out
            rw [hs, Option.bind_some] at hnx
            have HNx := Lib.hid hnx
            have zz : (z != z) = false := by simp
            clear hs hnx HSt
            go_wp2_with (go_at_call 60; refine hn.mono ?_; rintro e w2 ⟨rfl, hz, hg2⟩)
            go_roundw
            case rel => exact ⟨k + 1, o, rfl, by go_num, by omega, HNx.out, hz z0, HGr.out.trans hg2⟩
            case measure => simp [intOf]; omega
          · have hs : opsS q z o = none := by unfold opsS; rw [if_neg z0, if_neg q4, if_neg zq]
            have hR0 : R = none := by rw [← HSt.out, hs]; rfl
            subst hR0
            have zz : (z != q) = true := by simpa using zq
            clear hs HSt zq
            go_wp2_with (go_at_call 60; refine hn.mono ?_; rintro e w2 ⟨rfl, hz, hg2⟩)
            go_ret2
            exact ⟨rfl, (fun h => by cases h), HGr.out.trans hg2⟩
    · obtain rfl : m = k := by omega
      rw [HEnd.out] at hst
      subst hst
      go_wp2
      go_ret2
      exact ⟨rfl, fun _ => HRt.out, HGr.out⟩
end Go.Proofs.Ytckofngclgkajaa
