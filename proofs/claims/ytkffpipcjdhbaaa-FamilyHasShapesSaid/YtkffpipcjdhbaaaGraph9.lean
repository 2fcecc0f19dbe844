/- What Independent and Neighbours of package graph answer; sets of nodes. -/
import Derived.Test.YtkffpipcjdhbaaaLinks3
namespace Go.Proofs.Ytkffpipcjdhbaaa
open Go.RowKit

theorem bits_and (S T : Nat) (hS : S < 4294967296) (hT : T < 4294967296) : bits .and .u32 (S:Int) (T:Int) = ((S &&& T : Nat) : Int) := u32_and_nat S T hS hT
theorem and_lt' {S T : Nat} (hS : S < 4294967296) : S &&& T < 4294967296 := Nat.lt_of_le_of_lt Nat.and_le_left hS

def hasS (S : Nat) (v : Int) : Bool := decide (0 ≤ v ∧ v < 32) && S.testBit v.toNat
theorem hasS_nat {S v : Nat} (hv : v < 32) : hasS S v = S.testBit v := by
  unfold hasS
  rw [decide_eq_true (by omega)]
  simp

def allS (n : Nat) : Nat := 2 ^ n - 1
theorem allS_bit {n j : Nat} : (allS n).testBit j = decide (j < n) := by simp [allS, Nat.testBit_two_pow_sub_one]
theorem allS_succ (n : Nat) : allS n ||| 2 ^ n = allS (n + 1) := by
  apply Nat.eq_of_testBit_eq
  intro j
  rw [Bool.eq_iff_iff, or_bit_iff, allS_bit, allS_bit]
  simp; omega
theorem allS_lt {n : Nat} (h : n ≤ 31) : allS n < 4294967296 := by
  have := pow32 (d := n) (by omega)
  unfold allS
  omega

/-- the neighbours of the elements of set -/
noncomputable def nbF (G : Gr) (set : Nat) : Nat := if validB G then arF set (allLinks G G.ps.length) else 0

/-- whether no two elements of set are neighbours -/
noncomputable def indB (G : Gr) (set : Nat) : Bool := validB G && ((set / 2 ^ G.ps.length == 0) && (set &&& nbF G set == 0))

set_option maxHeartbeats 400000 in
theorem independent_any (ia pa : Option Addr) (il ic pl pc : Nat) (G : Gr) (set : Nat) (w : World) (hG : GraphAt w ia il pa pl G) (hset : set < 4294967296) :
    Calls Try.prog 73 #[.agg #[.slice ia il ic, .slice pa pl pc], .int .u32 (set : Int)] w fun e w' => e = .returned (.bool (indB G set)) ∧ Below w.heap.size w w' := by
  have Hpl := Lib.hid hG.pl
  cases hv : validB G with
  | false =>
    have Hf : Hid (indB G set = false) := Lib.hid (by simp [indB, hv])
    go_enter Try.func73, Try.ntmps73
    go_wp2_with (go_at_call 51; refine (valid_any _ _ _ _ _ _ G _ (hG.alloc _)).mono ?_; rintro e w1 ⟨rfl, hb1⟩)
    go_ret
    exact ⟨ret_bool Hf.out.symm, ((Below.refl _ _).alloc (Nat.le_refl _) _).trans (hb1.mono (by simp))⟩
  | true =>
    have HV := Lib.hid (validB_iff.1 hv)
    have hp24 : pl ≤ 24 := by have := HV.out.le; have := Hpl.out; omega
    have hp24' : (pl : Int) < 32 := by omega
    have Hlt := Lib.hid (arF_lt (set := set) (L := allLinks G pl) (fun p hp => by
      obtain ⟨u, hu, j, hj, rfl⟩ := mem_allLinks.1 hp
      have := (HV.out.links u (by have := Hpl.out; omega) j hj).1
      have := Hpl.out
      exact lnk_near (by omega) (by omega)))
    have hand := bits_and set _ hset Hlt.out
    have Hf : Hid (indB G set = ((set / 2 ^ pl == 0) && (set &&& arF set (allLinks G pl) == 0))) := Lib.hid (by simp [indB, nbF, hv, Hpl.out])
    by_cases h1 : set / 2 ^ pl = 0
    · have hq1 : (((set : Int) / 2 ^ pl) == 0) = true := by
        have : ((set / 2 ^ pl : Nat) : Int) = 0 := by rw [h1]; rfl
        simpa using this
      have hn1 : (set / 2 ^ pl == 0) = true := by simpa using h1
      rw [hn1] at Hf
      clear h1
      have hq3 : (((set &&& arF set (allLinks G pl) : Nat) : Int) == 0) = (set &&& arF set (allLinks G pl) == 0) := by rw [Bool.eq_iff_iff]; simp only [beq_iff_eq]; omega
      cases hq2 : (set &&& arF set (allLinks G pl) == 0)
      all_goals
        rw [hq2] at Hf
        rw [hq2] at hq3
        go_enter Try.func73, Try.ntmps73
        go_wp2_with (first | (go_at_call 51; refine (valid_any _ _ _ _ _ _ G _ (hG.alloc _)).mono ?_; rintro e w1 ⟨rfl, hb1⟩; have hbx : Below (w.heap.size + 1) (w.alloc (.cells #[.slice ia il ic, .slice pa pl pc] 26)) w1 := hb1.mono (by simp); have hx0 : w1.cell? ⟨w.heap.size, 0, none⟩ = some (.slice ia il ic) := boxed hbx 0; have hx1 : w1.cell? ⟨w.heap.size, 1, none⟩ = some (.slice pa pl pc) := boxed hbx 1) | (go_at_call 79; refine (around_any _ _ _ _ _ _ G set _ (hG.below (belBox hbx)) HV.out hset).mono ?_; rintro e w2 ⟨rfl, hb2⟩))
        go_ret
        exact ⟨ret_bool (by rw [Hf.out]; rfl), (belBox hbx).trans (hb2.mono (belBox hbx).size)⟩
    · have hq1 : (((set : Int) / 2 ^ pl) == 0) = false := by
        have : ((set / 2 ^ pl : Nat) : Int) ≠ 0 := by omega
        simpa using this
      have hn1 : (set / 2 ^ pl == 0) = false := by simpa using h1
      rw [hn1] at Hf
      clear h1
      go_enter Try.func73, Try.ntmps73
      go_wp2_with (first | (go_at_call 51; refine (valid_any _ _ _ _ _ _ G _ (hG.alloc _)).mono ?_; rintro e w1 ⟨rfl, hb1⟩; have hbx : Below (w.heap.size + 1) (w.alloc (.cells #[.slice ia il ic, .slice pa pl pc] 26)) w1 := hb1.mono (by simp); have hx0 : w1.cell? ⟨w.heap.size, 0, none⟩ = some (.slice ia il ic) := boxed hbx 0; have hx1 : w1.cell? ⟨w.heap.size, 1, none⟩ = some (.slice pa pl pc) := boxed hbx 1))
      go_ret
      exact ⟨ret_bool (by rw [Hf.out]; rfl), belBox hbx⟩
end Go.Proofs.Ytkffpipcjdhbaaa
