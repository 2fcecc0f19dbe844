/- What the functions of package graph answer, first part: different, sound, has. -/
import Derived.Test.YtfbbkiibhdgojaaRef01V
namespace Go.Proofs.Ytfbbkiibhdgojaa
open Go.RowKit

set_option maxHeartbeats 400000 in
theorem has_any (ia pa : Option Addr) (il ic pl pc : Nat) (v : Int) (w : World) :
    Calls Try.prog 27 #[.agg #[.slice ia il ic, .slice pa pl pc], .int .i64 v] w fun e w' => e = .returned (.bool (inB v 0 (pl - 1))) ∧ Below w.heap.size w w' := by
  by_cases h1 : 0 ≤ v
  all_goals by_cases h2 : v < pl
  all_goals
    go_enter Try.func27, Try.ntmps27
    go_wp2
    go_ret
    exact ⟨ret_bool (by unfold inB; symm; simp; omega), (Below.refl _ _).alloc (Nat.le_refl _) _⟩

def falses : Array Value := Array.replicate 256 (.bool false)
theorem falses_at {j : Nat} (h : j < 256) : falses[j]? = some (.bool false) := by simp [falses, h]
theorem zeroFalses (w : World) : (zeroValue 60).run Try.prog w = .ok (.agg falses) w := by kernel_rfl

open Classical in
noncomputable def takenF (zs : List Int) (k : Nat) (j : Nat) : Bool := decide (∃ i, i < k ∧ idA zs i = j)
theorem takenF_iff {zs : List Int} {k j : Nat} : takenF zs k j = true ↔ ∃ i, i < k ∧ idA zs i = j := by simp [takenF]
theorem takenF_zero (zs : List Int) (j : Nat) : takenF zs 0 j = false := by simp [takenF]
theorem takenF_same {zs : List Int} {k d : Nat} (h : idA zs k = d) : takenF zs (k + 1) d = true := takenF_iff.2 ⟨k, Nat.lt_succ_self k, h⟩
theorem takenF_other {zs : List Int} {k d j : Nat} (h : idA zs k = d) (hj : j ≠ d) : takenF zs (k + 1) j = takenF zs k j := by
  rw [Bool.eq_iff_iff, takenF_iff, takenF_iff]
  constructor
  · rintro ⟨i, hi, e⟩
    rcases Nat.lt_or_ge i k with h1 | h1
    · exact ⟨i, h1, e⟩
    · rw [show i = k by omega] at e; omega
  · rintro ⟨i, hi, e⟩
    exact ⟨i, by omega, e⟩

open Classical in
noncomputable def idsOkB (zs : List Int) : Bool := decide (∀ i, i < zs.length → IdOk zs i)
theorem idsOkB_mk {zs : List Int} (h : ∀ i, i < zs.length → IdOk zs i) : idsOkB zs = true := by simpa [idsOkB] using h
theorem idsOkB_mkF {zs : List Int} (h : ¬ ∀ i, i < zs.length → IdOk zs i) : idsOkB zs = false := by
  simpa [idsOkB] using h
theorem idsOkB_iff {zs : List Int} : idsOkB zs = true ↔ ∀ i, i < zs.length → IdOk zs i := by simp [idsOkB]

set_option maxHeartbeats 400000 in
theorem different_any (a : Option Addr) (c : Nat) (zs : List Int) (w : World) (hI : IntsAt w a zs) :
    Calls Try.prog 32 #[.slice a zs.length c] w fun e w' => e = .returned (.bool (idsOkB zs)) ∧ Below w.heap.size w w' := by
  have hlm := hI.size
  unfold maxLen at hlm
  have hz := zeroFalses
  go_enter Try.func32, Try.ntmps32
  go_wp2
  clear hz
  go_loopw [8] (fun t wr => ∃ k : Nat, k ≤ zs.length ∧ t = .int .i64 k ∧ (∀ j, j < k → IdOk zs j) ∧ Below w.heap.size w wr ∧ w.heap.size < wr.heap.size ∧ (∀ j, j < 256 → wr.cell? ⟨w.heap.size, j, none⟩ = some (.bool (takenF zs k j)) ∧ wr.frozen? ⟨w.heap.size, j, none⟩ = false)) (fun t _ => zs.length - (intOf t).toNat)
  case atStart =>
    refine ⟨0, Nat.zero_le _, rfl, fun j hj => absurd hj (by omega), (Below.refl _ _).alloc (Nat.le_refl _) _, by simp, fun j hj => ⟨?_, ?_⟩⟩
    · rw [World.cell?_alloc_new, falses_at hj, takenF_zero]
    · simp
  case round =>
    obtain ⟨k, hk, rfl, hn, hbel, hsz, hT⟩ := hrel
    have Hn := Lib.hid hn
    have HT := Lib.hid hT
    clear hn hT
    by_cases hlt : k < zs.length
    · obtain ⟨b, o, rfl, hb, hc⟩ := (hI.below hbel).row (by omega)
      have hck := hc k hlt
      clear hc
      by_cases h1 : idA zs k < 0
      · have Hf := Lib.hid (idsOkB_mkF (zs := zs) fun h => by have := (h k hlt).1; omega)
        go_wp2
        go_ret
        exact ⟨ret_bool Hf.out.symm, hbel⟩
      by_cases h2 : 255 < idA zs k
      · have Hf := Lib.hid (idsOkB_mkF (zs := zs) fun h => by have := (h k hlt).1; omega)
        go_wp2
        go_ret
        exact ⟨ret_bool Hf.out.symm, hbel⟩
      obtain ⟨d, hd⟩ : ∃ d : Nat, idA zs k = d := ⟨(idA zs k).toNat, by omega⟩
      rw [hd] at hck h1 h2
      have hd2 : d < 256 := by omega
      have Hd := Lib.hid hd
      clear hd
      have ht := (HT.out d hd2).1
      have hfz := (HT.out d hd2).2
      by_cases htk : takenF zs k d = true
      · have Hf := Lib.hid (idsOkB_mkF (zs := zs) fun h => by
          obtain ⟨i, hi, e⟩ := takenF_iff.1 htk
          exact (h k hlt).2 i hi (by rw [e, Hd.out]))
        go_wp2
        go_ret
        exact ⟨ret_bool Hf.out.symm, hbel⟩
      · have htk' : takenF zs k d = false := by simpa using htk
        have Htk := Lib.hid htk
        clear htk
        go_wp2
        go_roundw
        case rel =>
          refine ⟨k + 1, by omega, by go_num, fun j hj => ?_, hbel.setCell (Nat.le_refl _) _, by simpa [World.setCell] using hsz, fun j hj => ⟨?_, ?_⟩⟩
          · rcases Nat.lt_or_ge j k with h | h
            · exact Hn.out j h
            · rw [show j = k by omega]
              exact ⟨by rw [Hd.out]; omega, fun i hi e => Htk.out (takenF_iff.2 ⟨i, hi, by rw [e, Hd.out]⟩)⟩
          · by_cases hjd : j = d
            · subst hjd
              rw [takenF_same Hd.out]
              exact set_same ht
            · rw [takenF_other Hd.out hjd, set_other (by intro h; injection h; omega)]
              exact (HT.out j hj).1
          · have := (HT.out j hj).2
            simpa using this
        case measure => simp [intOf]; omega
    · have Hf := Lib.hid (idsOkB_mk (zs := zs) fun j hj => Hn.out j (by omega))
      go_wp2
      go_ret
      exact ⟨ret_bool Hf.out.symm, hbel⟩
end Go.Proofs.Ytfbbkiibhdgojaa
