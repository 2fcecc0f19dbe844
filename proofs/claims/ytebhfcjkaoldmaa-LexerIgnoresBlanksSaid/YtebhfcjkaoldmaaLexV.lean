/- What value of the program and number of the specification answer. -/
import Derived.Test.YtebhfcjkaoldmaaLexC
import Derived.Laws.RangeAny
namespace Go.Proofs.Ytebhfcjkaoldmaa
open Go.RowKit

theorem vtake_snoc (s : ByteArray) (k : Nat) (h : k < s.size) : s.data.toList.take (k + 1) = s.data.toList.take k ++ [s[k]] := by
  rw [List.take_succ_eq_append_getElem (by simpa using h)]; rfl
theorem vmem_at (s : ByteArray) (k : Nat) (h : k < s.size) : s[k] ∈ s.data.toList := by
  have : s[k] = s.data.toList[k]'(by simpa using h) := rfl
  rw [this]
  exact List.getElem_mem _
theorem vall (s : ByteArray) {k : Nat} (h : s.size ≤ k) : s.data.toList.take k = s.data.toList := List.take_of_length_le (by simpa using h)
theorem dgt_iff {b : UInt8} (h : isDgt b = true) : 48 ≤ b.toNat ∧ b.toNat ≤ 57 := by simpa [isDgt] using h
def capF (l : Bytes) : Nat := min (valF l) 1073741825
theorem cap_snoc (l : Bytes) (b : UInt8) : capF (l ++ [b]) = min (10 * capF l + (b.toNat - 48)) 1073741825 := by
  unfold capF
  rw [val_snoc]
  omega

set_option maxHeartbeats 1000000 in
theorem value_any (s : ByteArray) (w : World) (hd : ∀ b ∈ s.data.toList, isDgt b = true) :
    Calls Try.prog 33 #[.string s] w fun e w' => e = .returned (.int .i64 (capF s.data.toList : Nat)) ∧ Below w.heap.size w w' := by
  have Hd := Lib.hid hd
  clear hd
  go_enter Try.func33, Try.ntmps33
  go_wp2
  go_loopw [3] (fun f wr => ∃ k : Nat, k ≤ s.size ∧ wr = w.iter s k ∧ f = .int .i64 (capF (s.data.toList.take k) : Nat)) (fun _ wr => s.size - wr.iterPos w.heap.size)
  case atStart => exact ⟨0, Nat.zero_le _, rfl, rfl⟩
  case round =>
    obtain ⟨k, hk, rfl, rfl⟩ := hrel
    by_cases hlt : k < s.size
    · obtain ⟨hb1, hb2⟩ := dgt_iff (Hd.out _ (vmem_at s k hlt))
      have HS : Hid (capF (s.data.toList.take (k + 1)) = min (10 * capF (s.data.toList.take k) + (s[k].toNat - 48)) 1073741825) := Lib.hid (by rw [vtake_snoc s k hlt, cap_snoc])
      have hV : capF (s.data.toList.take k) ≤ 1073741825 := Nat.min_le_right _ _
      generalize capF (s.data.toList.take k) = V at *
      have hasc : s[k].toNat < 128 := by omega
      have hnx : ∀ ty, (Instr.next (.pointer (some ⟨w.heap.size, 0, none⟩)) true ty).run Try.prog (w.iter s k) = _ := fun ty => run_next_ascii w s k ty hlt hasc
      by_cases hx : 1073741825 < 10 * V + (s[k].toNat - 48)
      · have HE : Hid (capF (s.data.toList.take (k + 1)) = 1073741825) := Lib.hid (by rw [HS.out]; omega)
        have hx1 : 1073741825 < 10 * (V : Int) + ((s[k].toNat : Int) - 48) := by omega
        go_wp2
        go_roundw
        case rel => exact ⟨k + 1, by omega, rfl, by rw [HE.out]; rfl⟩
        case measure => simp; omega
      · have HE : Hid (capF (s.data.toList.take (k + 1)) = 10 * V + (s[k].toNat - 48)) := Lib.hid (by rw [HS.out]; omega)
        have hx1 : ¬ 1073741825 < 10 * (V : Int) + ((s[k].toNat : Int) - 48) := by omega
        go_wp2
        go_roundw
        case rel => exact ⟨k + 1, by omega, rfl, by rw [HE.out]; go_num⟩
        case measure => simp; omega
    · have hall := vall s (k := k) (by omega)
      have hnx : ∀ ty, (Instr.next (.pointer (some ⟨w.heap.size, 0, none⟩)) true ty).run Try.prog (w.iter s k) = _ := fun ty => run_next_end w s k ty hlt
      rw [hall]
      clear hall
      go_wp2
      go_ret
      exact ⟨rfl, (Below.refl _ _).alloc (Nat.le_refl _) _⟩

/-! ### Numbers of the specification -/
def badF (l : Bytes) : Bool := (l.head? == some 48 && decide (1 < l.length)) || decide (1073741824 < valF l)
theorem val_lower : ∀ (n : Nat) (l : Bytes), l.length = n + 1 → (∀ b ∈ l, isDgt b = true) → l.head? ≠ some 48 → 10 ^ n ≤ valF l
  | 0, l, hl, hd, hh => by
    match l, hl with
    | [b], _ =>
      have h1 := dgt_iff (hd b (by simp))
      have h2 : b.toNat ≠ 48 := fun e => hh (by simp; exact UInt8.toNat_inj.1 e)
      simp [valF]
      omega
  | n + 1, l, hl, hd, hh => by
    obtain ⟨m, b, rfl⟩ : ∃ m b, l = m ++ [b] := by
      have hne : l ≠ [] := by intro e; rw [e] at hl; simp at hl
      exact ⟨l.dropLast, l.getLast hne, (List.dropLast_concat_getLast hne).symm⟩
    have hm : m.length = n + 1 := by simpa using hl
    have hmn : m ≠ [] := by intro e; rw [e] at hm; simp at hm
    have h1 : (m ++ [b]).head? = m.head? := by cases m with
      | nil => exact absurd rfl hmn
      | cons a t => rfl
    rw [h1] at hh
    have ih := val_lower n m hm (fun x hx => hd x (by simp [hx])) hh
    rw [val_snoc, Nat.pow_succ]
    omega
theorem val_bound : ∀ (k : Nat) (l : Bytes), l.length ≤ k → (∀ b ∈ l, isDgt b = true) → valF l < 10 ^ k := by
  intro k
  induction k with
  | zero =>
    intro l hl _
    have : l = [] := List.length_eq_zero_iff.1 (by omega)
    rw [this]
    simp [valF]
  | succ k ih =>
    intro l hl hd
    by_cases hne : l = []
    · rw [hne]; simp [valF]; exact Nat.pow_pos (by decide)
    · rw [← List.dropLast_concat_getLast hne, val_snoc]
      have h5 := ih l.dropLast (by simp; omega) (fun b hb => hd b ((List.dropLast_prefix l).subset hb))
      have h6 := dgt_iff (hd _ (List.getLast_mem hne))
      rw [Nat.pow_succ]
      omega
theorem bad_zero {l : Bytes} (h1 : 1 < l.length) (h2 : l.head? = some 48) : badF l = true := by simp [badF, h1, h2]
theorem bad_long {l : Bytes} (h1 : 10 < l.length) (hd : ∀ b ∈ l, isDgt b = true) : badF l = true := by
  by_cases h : l.head? = some 48
  · exact bad_zero (by omega) h
  · have h2 := val_lower (l.length - 1) l (by omega) hd h
    have h3 : 10 ^ 10 ≤ 10 ^ (l.length - 1) := Nat.pow_le_pow_right (by decide) (by omega)
    simp [badF]
    right
    have : (10 : Nat) ^ 10 = 10000000000 := by decide
    omega
theorem bad_not {l : Bytes} (h1 : 1 < l.length → l.head? ≠ some 48) : badF l = decide (1073741824 < valF l) := by
  unfold badF
  by_cases h : 1 < l.length
  · have := h1 h
    simp [this]
  · simp [h]
theorem ret_ib {a c : Int} {b d : Bool} (h : a = c ∧ b = d) : Ending.returned (.tuple #[.int .i64 a, .bool b]) = .returned (.tuple #[.int .i64 c, .bool d]) := by rw [h.1, h.2]

set_option maxHeartbeats 2000000 in
theorem number_any (s : ByteArray) (w : World) (hs : s.size ≤ 1000000) (hd : ∀ b ∈ s.data.toList, isDgt b = true) (h0 : 0 < s.size) :
    Calls Try.prog 36 #[.string s] w fun e w' => (∃ z : Int, e = .returned (.tuple #[.int .i64 z, .bool (!badF s.data.toList)]) ∧ (badF s.data.toList = false → z = valF s.data.toList)) ∧ w' = w := by
  have hlen : s.data.toList.length = s.size := by simp
  have hhead : s.data.toList.head? = some s[0] := by
    rw [List.head?_eq_getElem?]
    exact List.getElem?_eq_getElem (by simpa using h0)
  have Hlen := Lib.hid hlen
  have Hhead := Lib.hid hhead
  have Hd := Lib.hid hd
  clear hlen hhead hd
  have main : (1 < s.size → s[0] ≠ 48) → s.size ≤ 10 → Calls Try.prog 36 #[.string s] w fun e w' => (∃ z : Int, e = .returned (.tuple #[.int .i64 z, .bool (!badF s.data.toList)]) ∧ (badF s.data.toList = false → z = valF s.data.toList)) ∧ w' = w := by
    intro hz h10
    have HB : Hid (badF s.data.toList = decide (1073741824 < valF s.data.toList)) := Lib.hid (bad_not fun h => by
      rw [Hhead.out]
      rw [Hlen.out] at h
      simpa using hz h)
    have hz2 : 1 < s.size → (((s[0].toNat : Nat) : Int) == 48) = false := fun h => by
      have h5 := hz h
      have : s[0].toNat ≠ 48 := fun e => h5 (UInt8.toNat_inj.1 e)
      simp; omega
    clear hz
    have d2 : decide (10 < (s.size : Int)) = false := by simp; omega
    by_cases h3 : 1 < s.size
    all_goals
      first | (have d3 : decide (1 < (s.size : Int)) = true := by simp; omega) | (have d3 : decide (1 < (s.size : Int)) = false := by simp; omega)
      try (have d4 := hz2 h3)
      clear hz2
      go_enter Try.func36, Try.ntmps36
      go_wp2
      go_loop [4, 5] (fun f t => ∃ k : Nat, k ≤ s.size ∧ t = .int .i64 k ∧ f = .int .i64 (valF (s.data.toList.take k) : Nat)) (fun _ t => s.size - (intOf t).toNat)
      case atStart => exact ⟨0, Nat.zero_le _, rfl, rfl⟩
      case round =>
        obtain ⟨k, hk, rfl, rfl⟩ := hrel
        by_cases hlt : k < s.size
        · obtain ⟨hb1, hb2⟩ := dgt_iff (Hd.out _ (vmem_at s k hlt))
          have hv := val_bound 10 (s.data.toList.take k) (by have := List.length_take_le k s.data.toList; omega) (fun b hb => Hd.out b (List.mem_of_mem_take hb))
          have HS : Hid (valF (s.data.toList.take (k + 1)) = 10 * valF (s.data.toList.take k) + (s[k].toNat - 48)) := Lib.hid (by rw [vtake_snoc s k hlt, val_snoc])
          generalize valF (s.data.toList.take k) = V at *
          go_wp2
          go_round
          case rel => exact ⟨k + 1, by omega, by go_num, by rw [HS.out]; go_num⟩
          case measure => simp [intOf]; omega
        · have hall := vall s (k := k) (by omega)
          rw [hall] at *
          clear hall
          have hv := val_bound 10 s.data.toList (by rw [Hlen.out]; omega) Hd.out
          by_cases hle : valF s.data.toList ≤ 1073741824
          · have HB2 : Hid (badF s.data.toList = false) := Lib.hid (by rw [HB.out]; simp; omega)
            go_wp2
            go_ret2
            exact ⟨⟨_, ret_ib ⟨rfl, by rw [HB2.out]; simp; omega⟩, fun _ => rfl⟩, rfl⟩
          · have HB2 : Hid (badF s.data.toList = true) := Lib.hid (by rw [HB.out]; simp; omega)
            go_wp2
            go_ret2
            exact ⟨⟨_, ret_ib ⟨rfl, by rw [HB2.out]; simp; omega⟩, fun _ => rfl⟩, rfl⟩
  by_cases h3 : 1 < s.size ∧ s[0] = 48
  · have HB := Lib.hid (bad_zero (l := s.data.toList) (by rw [Hlen.out]; exact h3.1) (by rw [Hhead.out, h3.2]))
    have d3 : decide (1 < (s.size : Int)) = true := by simp; omega
    have d4 : (((s[0].toNat : Nat) : Int) == 48) = true := by rw [h3.2]; rfl
    clear main
    go_enter Try.func36, Try.ntmps36
    go_wp2
    go_ret2
    exact ⟨⟨_, ret_ib ⟨rfl, by rw [HB.out]; rfl⟩, fun h => by rw [HB.out] at h; cases h⟩, rfl⟩
  · by_cases h4 : 10 < s.size
    · have HB := Lib.hid (bad_long (l := s.data.toList) (by rw [Hlen.out]; exact h4) Hd.out)
      have d2 : decide (10 < (s.size : Int)) = true := by simp; omega
      have d3 : decide (1 < (s.size : Int)) = true := by simp; omega
      have d4 : (((s[0].toNat : Nat) : Int) == 48) = false := by
        have h5 : s[0] ≠ 48 := fun e => h3 ⟨by omega, e⟩
        have : s[0].toNat ≠ 48 := fun e => h5 (UInt8.toNat_inj.1 e)
        simp; omega
      clear main h3
      go_enter Try.func36, Try.ntmps36
      go_wp2
      go_ret2
      exact ⟨⟨_, ret_ib ⟨rfl, by rw [HB.out]; rfl⟩, fun h => by rw [HB.out] at h; cases h⟩, rfl⟩
    · exact main (fun h e => h3 ⟨h, e⟩) (by omega)
end Go.Proofs.Ytebhfcjkaoldmaa
