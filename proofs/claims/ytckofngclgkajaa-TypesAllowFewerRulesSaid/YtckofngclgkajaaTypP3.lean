/- What next of the reader of the program's types answers. -/
import Derived.Test.YtckofngclgkajaaTypP2
import Derived.Deep.QuietTactic
import Derived.BigQuiet
import Derived.Deep.RegionWith
namespace Go.Proofs.Ytckofngclgkajaa
set_option maxRecDepth 100000
open Go.RowKit

def nbF (op : Int) : Bool := decide (11 ≤ op) && decide (op ≤ 17)
theorem grown_draws7 (w : World) (n : Nat) (r : Option Nat) : w.grownBy (w.drewN n) r := ⟨rfl, rfl, rfl, Nat.le_refl _, fun _ _ _ => rfl⟩
/-- behind the first two steps of next: the term in a box of its own, the place moved -/
theorem next_step {S : Src7} {p : Nat} {w : World} (h : RAt S p w) (hp : p < S.xs.length) (op arg : Int) (q : Option Addr) (n c : Nat) (hn : n = S.xs.length - (p + 1)) (hc : c = S.c - (p + 1)) (hq : p + 1 < S.xs.length → q = some ⟨S.b, S.o + (p + 1) * 2, none⟩) :
    RAt S (p + 1) ((w.setCell ⟨S.w.heap.size, 0, none⟩ (.slice q n c)).alloc (.cells #[.int .i64 op, .int .i64 arg] 38)) ∧
    w.grownBy ((w.setCell ⟨S.w.heap.size, 0, none⟩ (.slice q n c)).alloc (.cells #[.int .i64 op, .int .i64 arg] 38)) (some S.w.heap.size) ∧
    ((w.setCell ⟨S.w.heap.size, 0, none⟩ (.slice q n c)).alloc (.cells #[.int .i64 op, .int .i64 arg] 38)).cell? ⟨w.heap.size, 0, none⟩ = some (.int .i64 op) ∧
    ((w.setCell ⟨S.w.heap.size, 0, none⟩ (.slice q n c)).alloc (.cells #[.int .i64 op, .int .i64 arg] 38)).cell? ⟨w.heap.size, 1, none⟩ = some (.int .i64 arg) ∧
    w.heap.size < ((w.setCell ⟨S.w.heap.size, 0, none⟩ (.slice q n c)).alloc (.cells #[.int .i64 op, .int .i64 arg] 38)).heap.size := by
  have h2 := World.cell?_alloc_new (w.setCell ⟨S.w.heap.size, 0, none⟩ (.slice q n c)) #[.int .i64 op, .int .i64 arg] 38
  rw [size_set7] at h2
  exact ⟨(h.set hp q _ _ hn hc hq).far (below_alloc7 _ _), (grown_set7 _ _ _ _).trans (grown_below (below_alloc7 _ _) _), h2 0, h2 1, by rw [World.size_alloc, size_set7]; omega⟩

set_option maxHeartbeats 2000000 in
theorem nextP_none (S : Src7) (hS : S.Ok) (hcap : S.xs.length ≤ S.c) (p : Nat) (op arg : Int) (x : Ex) (hx : x.top = (op, arg)) (hs : Sits S.xs p x) (hop : 11 ≤ op ∧ op ≤ 17) (m : Nat) : Nxt S p false 0 m := by
  intro w hR
  have hp := hs.lt
  obtain ⟨hc0, hc1⟩ := hS.cells hs hR.bel
  rw [hx] at hc0 hc1
  obtain ⟨q0, hq0, hqe⟩ := hR.c0
  rw [hqe hp] at hq0
  have hlow := hR.lt
  have hA0 : ∀ O, (w.alloc O).cell? ⟨S.w.heap.size, 0, none⟩ = some (.slice (some ⟨S.b, S.o + p * 2, none⟩) (S.xs.length - p) (S.c - p)) := fun O => ((below_alloc7 w O).cell (p := ⟨S.w.heap.size, 0, none⟩) hlow).trans hq0
  have hAf : ∀ O, (w.alloc O).frozen? ⟨S.w.heap.size, 0, none⟩ = false := fun O => ((below_alloc7 w O).frozen (p := ⟨S.w.heap.size, 0, none⟩) hlow).trans hR.f0
  obtain ⟨N, hN⟩ : ∃ N, N = S.xs.length - p := ⟨_, rfl⟩
  obtain ⟨C, hC⟩ : ∃ C, C = S.c - p := ⟨_, rfl⟩
  have hfew := hS.few
  have n1 : (1 : Int) ≤ (N : Int) := by omega
  have n0 : (0 : Int) < (N : Int) := by omega
  have nc : (N : Int) ≤ (C : Int) := by omega
  have c1 : (1 : Int) ≤ (C : Int) := by omega
  have HSt := Lib.hid (fun (q : Option Addr) (n c : Nat) (hn : n = S.xs.length - (p + 1)) (hc : c = S.c - (p + 1)) (hq : p + 1 < S.xs.length → q = some ⟨S.b, S.o + (p + 1) * 2, none⟩) => next_step hR hp op arg q n c hn hc hq)
  have HN := Lib.hid hN
  have HC := Lib.hid hC
  rw [← hN, ← hC] at hq0 hA0
  change w.cell? _ = some (.int .i64 op) at hc0
  change w.cell? _ = some (.int .i64 arg) at hc1
  have HNb := fun W => neighP_any op W
  rw [decide_eq_true hop.1, decide_eq_true hop.2] at HNb
  clear hS hs hR hqe hx hop hN hC hp
  generalize S.w.heap.size = rb at *
  go_enter Try.func60, Try.ntmps60
  go_wp2_with (go_at_call 77; refine (HNb _).mono ?_; rintro e w1 ⟨rfl, rfl⟩)
  all_goals
    go_ret
    have h1 := HN.out
    have h2 := HC.out
    refine ⟨rfl, ?_⟩
    refine (HSt.out _ _ _ ?_ ?_ ?_).2.1
    · omega
    · omega
    · intro h3
      first | (exfalso; omega) | rw [if_neg (show ¬ C = 1 by omega), show S.o + (p + 1) * 2 = S.o + p * 2 + 2 by omega] | rw [show S.o + (p + 1) * 2 = S.o + p * 2 + 2 by omega]
set_option maxHeartbeats 4000000 in
theorem nextP_var (S : Src7) (hS : S.Ok) (hcap : S.xs.length ≤ S.c) (p : Nat) (op arg : Int) (x : Ex) (hx : x.top = (op, arg)) (hs : Sits S.xs p x) (b : Bool) (hop : op = 5 ∨ (op = 12 ∧ b = true)) (ha : argB (op, arg) S.ks.length = true) : Nxt S p b (idA S.ks arg.toNat) (p + 1) := by
  intro w hR
  have hp := hs.lt
  obtain ⟨hc0, hc1⟩ := hS.cells hs hR.bel
  rw [hx] at hc0 hc1
  obtain ⟨q0, hq0, hqe⟩ := hR.c0
  rw [hqe hp] at hq0
  have hlow := hR.lt
  have hA0 : ∀ O, (w.alloc O).cell? ⟨S.w.heap.size, 0, none⟩ = some (.slice (some ⟨S.b, S.o + p * 2, none⟩) (S.xs.length - p) (S.c - p)) := fun O => ((below_alloc7 w O).cell (p := ⟨S.w.heap.size, 0, none⟩) hlow).trans hq0
  have hAf : ∀ O, (w.alloc O).frozen? ⟨S.w.heap.size, 0, none⟩ = false := fun O => ((below_alloc7 w O).frozen (p := ⟨S.w.heap.size, 0, none⟩) hlow).trans hR.f0
  obtain ⟨N, hN⟩ : ∃ N, N = S.xs.length - p := ⟨_, rfl⟩
  obtain ⟨C, hC⟩ : ∃ C, C = S.c - p := ⟨_, rfl⟩
  have hfew := hS.few
  have n1 : (1 : Int) ≤ (N : Int) := by omega
  have n0 : (0 : Int) < (N : Int) := by omega
  have nc : (N : Int) ≤ (C : Int) := by omega
  have c1 : (1 : Int) ≤ (C : Int) := by omega
  have HW := Lib.hid (fun (w1 : World) (q : Option Addr) (n c : Nat) (he : w1 = (w.setCell ⟨S.w.heap.size, 0, none⟩ (.slice q n c)).alloc (.cells #[.int .i64 op, .int .i64 arg] 38)) (hn : n = S.xs.length - (p + 1)) (hc : c = S.c - (p + 1)) (hq : p + 1 < S.xs.length → q = some ⟨S.b, S.o + (p + 1) * 2, none⟩) => by
    have := next_step hR hp op arg q n c hn hc hq
    rw [← he] at this
    exact this)
  have hx0 : ∀ q n c, ((w.setCell ⟨S.w.heap.size, 0, none⟩ (.slice q n c)).alloc (.cells #[.int .i64 op, .int .i64 arg] 38)).cell? ⟨w.heap.size, 0, none⟩ = some (.int .i64 op) := fun q n c => by
    have h2 := World.cell?_alloc_new (w.setCell ⟨S.w.heap.size, 0, none⟩ (.slice q n c)) #[.int .i64 op, .int .i64 arg] 38 0
    rw [size_set7] at h2
    exact h2
  have HN := Lib.hid hN
  have HC := Lib.hid hC
  rw [← hN, ← hC] at hq0 hA0
  change w.cell? _ = some (.int .i64 op) at hc0
  change w.cell? _ = some (.int .i64 arg) at hc1
  have harg : ∃ i : Nat, arg = (i : Int) ∧ i < S.ks.length := by
    unfold argB at ha
    rw [if_neg (by dsimp only; omega), if_pos (by dsimp only; omega)] at ha
    simp at ha
    exact ⟨arg.toNat, by omega, by omega⟩
  obtain ⟨i, rfl, hi⟩ := harg
  rw [Int.toNat_natCast]
  obtain ⟨kg, ko, ek, hkg, hkc⟩ := hS.kinds.row (by omega)
  have HK := Lib.hid (fun (W : World) (h : Below S.w.heap.size S.w W) => (h.cell (p := ⟨kg, ko + i, none⟩) hkg).trans (hkc i hi))
  have H1 := Lib.hid (fun (W : World) (h : RAt S (p + 1) W) => h.c1)
  rw [ek] at H1
  have HB := Lib.hid (fun (W : World) (h : RAt S (p + 1) W) => h.bel)
  have i0 : (0 : Int) ≤ (i : Int) := by omega
  have im : (i : Int) < (S.ks.length : Int) := by omega
  have HNb := fun W => neighP_any op W
  generalize idA S.ks i = z at *
  clear hS hs hR hqe hx hN hC hp ha hkc hkg ek hi
  generalize S.ks.length = m at *
  generalize hrb : S.w.heap.size = rb at *
  rcases hop with rfl | ⟨rfl, rfl⟩
  · rw [show (decide ((11 : Int) ≤ 5) && decide ((5 : Int) ≤ 17)) = false from rfl] at HNb
    go_enter Try.func60, Try.ntmps60
    go_wp2_with (go_at_call 77; refine (HNb _).mono ?_; rintro e w1 ⟨rfl, hw1⟩; have hst := HW.out w1 _ _ _ hw1 (by have h1 := HN.out; omega) (by have h1 := HN.out; have h2 := HC.out; omega) (fun h3 => by have h1 := HN.out; have h2 := HC.out; first | (exfalso; omega) | rw [if_neg (show ¬ C = 1 by omega), show S.o + (p + 1) * 2 = S.o + p * 2 + 2 by omega] | rw [show S.o + (p + 1) * 2 = S.o + p * 2 + 2 by omega]); obtain ⟨hR1, hG1, x0, x1, hs1⟩ := hst; clear hw1)
    all_goals
      have y1 := H1.out _ hR1
      have y2 := HK.out _ (HB.out _ hR1)
      go_quiet (fail)
      go_wp2
      go_ret
      exact ⟨rfl, fun _ => by first | exact hR1 | exact hR1.drew _, by first | exact hG1 | exact hG1.trans (grown_below (belDraws (Below.refl _ _) _) _)⟩
  · rw [show (decide ((11 : Int) ≤ 12) && decide ((12 : Int) ≤ 17)) = true from rfl] at HNb
    go_enter Try.func60, Try.ntmps60
    go_wp2_with (go_at_call 77; refine (HNb _).mono ?_; rintro e w1 ⟨rfl, hw1⟩; have hst := HW.out w1 _ _ _ hw1 (by have h1 := HN.out; omega) (by have h1 := HN.out; have h2 := HC.out; omega) (fun h3 => by have h1 := HN.out; have h2 := HC.out; first | (exfalso; omega) | rw [if_neg (show ¬ C = 1 by omega), show S.o + (p + 1) * 2 = S.o + p * 2 + 2 by omega] | rw [show S.o + (p + 1) * 2 = S.o + p * 2 + 2 by omega]); obtain ⟨hR1, hG1, x0, x1, hs1⟩ := hst; clear hw1)
    all_goals
      have y1 := H1.out _ hR1
      have y2 := HK.out _ (HB.out _ hR1)
      go_quiet (fail)
      go_wp2
      go_ret
      exact ⟨rfl, fun _ => by first | exact hR1 | exact hR1.drew _, by first | exact hG1 | exact hG1.trans (grown_below (belDraws (Below.refl _ _) _) _)⟩
/-- the type of an operation behind its operands -/
def finK (op : Int) (o : Option Int) : Int := match o with | none => 0 | some y => if sigK op = 4 then y else sigK op
set_option maxHeartbeats 8000000 in
theorem nextP_op (S : Src7) (hS : S.Ok) (hcap : S.xs.length ≤ S.c) (p : Nat) (op arg : Int) (x : Ex) (hx : x.top = (op, arg)) (hs : Sits S.xs p x) (b : Bool) (h43 : 1 ≤ op ∧ op ≤ 43) (hop : ¬ (nbF op = true ∧ b = false)) (h5 : op ≠ 5) (h12 : op ≠ 12)
    (ar : Nat) (har : arF op = (ar : Int)) (har3 : ar ≤ 3) (zs : List Int) (hz : zs.length = ar) (pl : Nat → Nat) (hpl : pl 0 = p + 1) (hN0 : ∀ k, k < ar → Nxt S (pl k) (b || aggF op) (idA zs k) (pl (k + 1))) :
    Nxt S p b (finK op (opsO ((sigA op).take ar) zs 0)) (pl ar) := by
  intro w hR
  have hp := hs.lt
  obtain ⟨hc0, hc1⟩ := hS.cells hs hR.bel
  rw [hx] at hc0 hc1
  obtain ⟨q0, hq0, hqe⟩ := hR.c0
  rw [hqe hp] at hq0
  have hlow := hR.lt
  have hA0 : ∀ O, (w.alloc O).cell? ⟨S.w.heap.size, 0, none⟩ = some (.slice (some ⟨S.b, S.o + p * 2, none⟩) (S.xs.length - p) (S.c - p)) := fun O => ((below_alloc7 w O).cell (p := ⟨S.w.heap.size, 0, none⟩) hlow).trans hq0
  have hAf : ∀ O, (w.alloc O).frozen? ⟨S.w.heap.size, 0, none⟩ = false := fun O => ((below_alloc7 w O).frozen (p := ⟨S.w.heap.size, 0, none⟩) hlow).trans hR.f0
  obtain ⟨N, hN⟩ : ∃ N, N = S.xs.length - p := ⟨_, rfl⟩
  obtain ⟨C, hC⟩ : ∃ C, C = S.c - p := ⟨_, rfl⟩
  have hfew := hS.few
  have n1 : (1 : Int) ≤ (N : Int) := by omega
  have n0 : (0 : Int) < (N : Int) := by omega
  have nc : (N : Int) ≤ (C : Int) := by omega
  have c1 : (1 : Int) ≤ (C : Int) := by omega
  have HW := Lib.hid (fun (w1 : World) (q : Option Addr) (n c : Nat) (he : w1 = (w.setCell ⟨S.w.heap.size, 0, none⟩ (.slice q n c)).alloc (.cells #[.int .i64 op, .int .i64 arg] 38)) (hn : n = S.xs.length - (p + 1)) (hc : c = S.c - (p + 1)) (hq : p + 1 < S.xs.length → q = some ⟨S.b, S.o + (p + 1) * 2, none⟩) => by
    have := next_step hR hp op arg q n c hn hc hq
    rw [← he] at this
    exact this)
  have hx0 : ∀ q n c, ((w.setCell ⟨S.w.heap.size, 0, none⟩ (.slice q n c)).alloc (.cells #[.int .i64 op, .int .i64 arg] 38)).cell? ⟨w.heap.size, 0, none⟩ = some (.int .i64 op) := fun q n c => by
    have h2 := World.cell?_alloc_new (w.setCell ⟨S.w.heap.size, 0, none⟩ (.slice q n c)) #[.int .i64 op, .int .i64 arg] 38 0
    rw [size_set7] at h2
    exact h2
  have HN := Lib.hid hN
  have HC := Lib.hid hC
  rw [← hN, ← hC] at hq0 hA0
  change w.cell? _ = some (.int .i64 op) at hc0
  change w.cell? _ = some (.int .i64 arg) at hc1
  have HNb := fun W => neighP_any op W
  change ∀ W, Calls _ _ _ _ (fun e w' => e = .returned (.bool (nbF op)) ∧ w' = W) at HNb
  have hsl : ((sigA op).take ar).length = ar := by
    obtain ⟨x, y, z, e⟩ := sigA_three op
    rw [e, List.length_take]
    simp
    omega
  have HOp := Lib.hid (fun (g : Nat) (W : World) (hW : RAt S (p + 1) W) (hg : S.w.heap.size < g) (hc : ∀ k, k < ar → W.cell? ⟨g, k, none⟩ = some (.int .i64 (idA ((sigA op).take ar) k))) => by
    have h := opsP_any S (b || aggF op) ((sigA op).take ar) zs pl (by rw [hsl]; exact hz) (by rw [hsl]; exact har3) (by rw [hsl]; exact hN0) g W (by rw [hpl]; exact hW) hg (by rw [hsl]; exact hc)
    rw [hsl] at h
    exact h)
  have HSig := Lib.hid (fun W => signature_any op h43 W)
  have HAr := fun W => arityP_any op W
  rw [har] at HAr
  have HAg := fun W => aggP7_any op W
  have HCl := Lib.hid (fun (x y z : Int) (e : sigA op = [x, y, z]) (W : World) (k : Nat) (hk : k < ar) => show (W.alloc (.cells #[.int .i64 x, .int .i64 y, .int .i64 z] 91)).cell? ⟨W.heap.size, k, none⟩ = some (.int .i64 (idA ((sigA op).take ar) k)) by
    have h2 := World.cell?_alloc_new W #[.int .i64 x, .int .i64 y, .int .i64 z] 91 k
    rw [h2, e]
    rcases (show k = 0 ∨ k = 1 ∨ k = 2 by omega) with rfl | rfl | rfl
    · unfold idA
      rw [List.getD_eq_getElem?_getD, List.getElem?_take_of_lt hk]
      rfl
    · unfold idA
      rw [List.getD_eq_getElem?_getD, List.getElem?_take_of_lt hk]
      rfl
    · unfold idA
      rw [List.getD_eq_getElem?_getD, List.getElem?_take_of_lt hk]
      rfl)
  have a0 : (0 : Int) ≤ (ar : Int) := by omega
  have a3 : (ar : Int) ≤ 3 := by omega
  have e5 : (op == 5) = false := by simpa using h5
  have e12 : (op == 12) = false := by simpa using h12
  clear hS hs hR hqe hx hN hC hp har hz hpl hN0 hsl h43 h5 h12
  generalize nbF op = nb at *
  generalize aggF op = ag at *
  unfold finK
  generalize opsO ((sigA op).take ar) zs 0 = R at *

  rcases (show (b = true ∧ nb = true) ∨ (b = true ∧ nb = false) ∨ (b = false ∧ nb = false) by cases b <;> cases nb <;> simp at hop ⊢) with ⟨rfl, rfl⟩ | ⟨rfl, rfl⟩ | ⟨rfl, rfl⟩
  all_goals (first | rw [Bool.true_or] at HOp | rw [Bool.false_or] at HOp)
  all_goals clear hop
  all_goals
      go_enter Try.func60, Try.ntmps60
      go_wp2_with (first
        | (go_at_call 77; refine (HNb _).mono ?_; rintro e w1 ⟨rfl, hw1⟩; have hst := HW.out w1 _ _ _ hw1 (by have h1 := HN.out; omega) (by have h1 := HN.out; have h2 := HC.out; omega) (fun h3 => by have h1 := HN.out; have h2 := HC.out; first | (exfalso; omega) | rw [if_neg (show ¬ C = 1 by omega), show S.o + (p + 1) * 2 = S.o + p * 2 + 2 by omega] | rw [show S.o + (p + 1) * 2 = S.o + p * 2 + 2 by omega]); obtain ⟨hR1, hG1, x0, x1, hs1⟩ := hst; clear hw1)
        | (go_at_call 78; refine (HSig.out _).mono ?_; rintro e w2 ⟨⟨x2, y2, z2, hsg, rfl⟩, hb2⟩))
      (all_goals
        obtain ⟨W3, hW3⟩ : ∃ W3, W3 = w2.alloc (.cells #[.int .i64 x2, .int .i64 y2, .int .i64 z2] 91) := ⟨_, rfl⟩
        have hbw : Below w1.heap.size w1 W3 := by rw [hW3]; exact hb2.trans ((below_alloc7 w2 _).mono hb2.size)
        have hR3 := hR1.far hbw
        have x3 : W3.cell? ⟨w.heap.size, 0, none⟩ = some (.int .i64 op) := (hbw.cell (p := ⟨w.heap.size, 0, none⟩) hs1).trans x0
        have hcl := fun k hk => HCl.out x2 y2 z2 hsg w2 k hk
        rw [← hW3] at hcl
        have hgl : w2.heap.size < W3.heap.size := by rw [hW3, World.size_alloc]; omega
        have hgg : S.w.heap.size < w2.heap.size := by have h1 := hR1.lt; have h2 := hb2.size; omega
        have HO := Lib.hid (fun W (hb : Below W3.heap.size W3 W) => HOp.out w2.heap.size W (hR3.far hb) hgg (fun k hk => (hb.cell (p := ⟨w2.heap.size, k, none⟩) hgl).trans (hcl k hk)))
        have HG3 := Lib.hid (fun W (hb : Below W3.heap.size W3 W) => hG1.trans (grown_below (hbw.trans (hb.mono hbw.size)) (some S.w.heap.size)))
        rw [← hW3]
        clear hW3 hcl hR3 hbw hgl hgg hR1 hG1 hb2 hsg x0 x1 hs1 HW HN HC
        generalize w2.heap.size = g at *

        first | go_region_with ((first
          | (go_at_call 71; refine (HAr _).mono ?_; rintro e w4 ⟨rfl, hw4⟩; have hw4' := hw4.symm; subst hw4')
          | (go_at_call 80; refine (HAg _).mono ?_; rintro e w5 ⟨rfl, hw5⟩; have hw5' := hw5.symm; subst hw5')
          | (go_at_call 79; refine (HO.out _ (by first | exact Below.refl _ _ | exact belDraws (Below.refl _ _) _)).mono ?_; rintro e w6 ⟨rfl, hR6, hg6⟩; have hG6 := (HG3.out _ (by first | exact Below.refl _ _ | exact belDraws (Below.refl _ _) _)).trans hg6))) | fail
        all_goals (cases R with
          | none =>
            go_wp2_with fail
            go_ret
            first | exact ⟨rfl, fun h => absurd rfl h, hG6⟩ | exact ⟨rfl, hG6⟩
          | some y =>
            by_cases hsk : sigK op = 4
            · have hsk1 : (sigK op == 4) = true := by simpa using hsk
              go_wp2_with fail
              go_ret
              exact ⟨by first | rfl | simp [hsk], fun _ => hR6 rfl, hG6⟩
            · have hsk1 : (sigK op == 4) = false := by simpa using hsk
              go_wp2_with fail
              go_ret
              exact ⟨by first | rfl | simp [hsk], fun _ => hR6 rfl, hG6⟩))

end Go.Proofs.Ytckofngclgkajaa
