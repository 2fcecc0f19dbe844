/- What Split of the specification of layer 2 answers. -/
import Derived.Test.YtahhndhaciijpaaDoorRefT1
namespace Go.Proofs.YtahhndhaciijpaaDoor
open Go.RowKit

def strV (l : Bytes) : Value := .string ⟨l.toArray⟩
theorem info9 : (Tryd.prog.info? 9).map (fun i => (i.zero, i.size, i.bytes)) = some (some (.string ByteArray.empty), 1, 16) := by kernel_rfl
theorem extract_eq (s : ByteArray) (a b : Nat) : Value.string (s.extract a b) = strV ((s.data.toList.drop a).take (b - a)) := by
  unfold strV
  congr 1
  apply ByteArray.ext
  rw [ByteArray.data_extract]
  apply Array.toList_inj.1
  rw [Array.toList_extract]
theorem strV_self (s : ByteArray) : Value.string s = strV s.data.toList := by
  unfold strV
  congr 1

/-- the row of the words ws, that the call owns -/
def WordsAt (base : Nat) (w : World) (v : Value) (ws : List Bytes) : Prop := w.ownsRow base 9 1 v ws.length (ws.map strV)
/-- ws and the rest from f on, of which the first k - f bytes have no c, are the words of l -/
def CutAt (c : UInt8) (l : Bytes) (ws : List Bytes) (f k : Nat) : Prop :=
  splitB c l = ws ++ splitB c (l.drop f) ∧ c ∉ (l.drop f).take (k - f) ∧ ws.length ≤ f ∧ f ≤ k ∧ k ≤ l.length
theorem CutAt.zero (c : UInt8) (l : Bytes) : CutAt c l [] 0 0 := ⟨rfl, by simp, Nat.le_refl _, Nat.le_refl _, Nat.zero_le _⟩
theorem CutAt.next {c : UInt8} {l : Bytes} {ws : List Bytes} {f k : Nat} (h : CutAt c l ws f k) (hk : k < l.length) (hx : l[k] ≠ c) : CutAt c l ws f (k + 1) := by
  obtain ⟨h1, h2, h3, h4, h5⟩ := h
  refine ⟨h1, ?_, h3, by omega, hk⟩
  have e : (l.drop f).take (k + 1 - f) = (l.drop f).take (k - f) ++ [l[k]] := by
    rw [show k + 1 - f = (k - f) + 1 by omega, List.take_succ_eq_append_getElem (by simp; omega)]
    simp [show f + (k - f) = k by omega]
  rw [e]
  simp [h2]
  exact fun e => hx e.symm
theorem CutAt.cut {c : UInt8} {l : Bytes} {ws : List Bytes} {f k : Nat} (h : CutAt c l ws f k) (hk : k < l.length) (hx : l[k] = c) : CutAt c l (ws ++ [(l.drop f).take (k - f)]) (k + 1) (k + 1) := by
  obtain ⟨h1, h2, h3, h4, h5⟩ := h
  have e : l.drop f = (l.drop f).take (k - f) ++ c :: l.drop (k + 1) := by
    have e1 := (List.take_append_drop (k - f) (l.drop f)).symm
    rw [List.drop_drop, show f + (k - f) = k by omega, List.drop_eq_getElem_cons hk, hx] at e1
    exact e1
  refine ⟨?_, by simp, by simp; omega, Nat.le_refl _, hk⟩
  have e2 : splitB c (l.drop f) = (l.drop f).take (k - f) :: splitB c (l.drop (k + 1)) := by
    have e3 := split_word_at h2 (l.drop (k + 1))
    rw [← e] at e3
    exact e3
  rw [h1, e2]
  simp
theorem CutAt.last {c : UInt8} {l : Bytes} {ws : List Bytes} {f : Nat} (h : CutAt c l ws f l.length) : splitB c l = ws ++ [l.drop f] := by
  obtain ⟨h1, h2, h3, h4, h5⟩ := h
  rw [h1, split_word]
  rw [List.take_of_length_le (by simp)] at h2
  exact h2

set_option maxHeartbeats 1000000 in
theorem split_any (s : ByteArray) (c : UInt8) (w : World) (hs : s.size ≤ 1000000) :
    Calls Tryd.prog 31 #[.string s, .int .u8 (c.toNat : Int)] w fun e w' => (∃ v, e = .returned v ∧ WordsAt w.heap.size w' v (splitB c s.data.toList)) ∧ Below w.heap.size w w' := by
  obtain ⟨i0, hi, hz0, hz1, hz2⟩ := info_parts info9
  have hlen : s.data.toList.length = s.size := by simp
  have Hlen := Lib.hid hlen
  clear hlen
  go_enter Tryd.func31, Tryd.ntmps31
  go_wp2
  go_loopw [5, 6, 7] (fun q f t wr => ∃ (k fr : Nat) (ws : List Bytes), t = .int .i64 k ∧ f = .int .i64 fr ∧ WordsAt w.heap.size wr q ws ∧ CutAt c s.data.toList ws fr k ∧ Below w.heap.size w wr) (fun _ _ t _ => s.size - (intOf t).toNat)
  case atStart => exact ⟨0, 0, [], rfl, rfl, World.ownsRow_nil _ _ _ _, CutAt.zero _ _, Below.refl _ _⟩
  case round =>
    obtain ⟨k, fr, ws, rfl, rfl, hW, hC, hbel⟩ := hrel
    have hC5 := hC.2.2.2.2
    have hC4 := hC.2.2.2.1
    have hC3 := hC.2.2.1
    rw [Hlen.out] at hC5
    have hws : ws.length ≤ 1000000 := by omega
    have HC := Lib.hid hC
    have HW := Lib.hid hW
    have hsz := hbel.size
    clear hC hW
    by_cases hlt : k < s.size
    · have hget : s.data.toList[k]'(by rw [Hlen.out]; exact hlt) = s[k] := rfl
      by_cases hx : s[k] = c
      · have hq : (((s[k].toNat : Nat) : Int) == c.toNat) = true := by rw [hx]; simp
        have hki : (k : Int) ≤ s.size := by omega
        have hfi : (fr : Int) ≤ k := by omega
        have HC2 := Lib.hid (HC.out.cut (by rw [Hlen.out]; exact hlt) (by rw [hget]; exact hx))
        clear hx hget
        have HE := Lib.hid (extract_eq s fr k)
        have hown := HW.out
        unfold WordsAt at hown
        go_wp2_with (at_builtin; refine wpList_append_own _ rfl (.tmp 19) (.tmp 24) 35 rfl w.heap.size 9 i0 (.string ByteArray.empty) 1 16 Tryd.underlying35 hi hz0 hz1 hz2 rfl (by decide) _ _ _ rfl (hown.alloc _) ⟨wr.heap.size, 0, none⟩ 1 1 [.string (s.extract fr k)] rfl rfl (cell_one_new _ _ _) (fun x hx => by simp at hx; subst hx; rfl) (by unfold maxLen; omega) (by omega) (by simp; omega) ?_; intro v1 w1 hown1 hgrow1 hnil1)
        go_roundw
        case rel =>
          refine ⟨k + 1, k + 1, ws ++ [(s.data.toList.drop fr).take (k - fr)], by go_num, by go_num, ?_, HC2.out, Below.grown (hbel.alloc hsz _) hgrow1 (by simp; omega) (fun k hk => (hown.lt k hk).1)⟩
          unfold WordsAt
          rw [HE.out] at hown1
          simpa using hown1
        case measure => simp [intOf]; omega
      · have hq : (((s[k].toNat : Nat) : Int) == c.toNat) = false := by
          have : s[k].toNat ≠ c.toNat := fun e => hx (UInt8.toNat_inj.1 e)
          simp; omega
        have HC2 := Lib.hid (HC.out.next (by rw [Hlen.out]; exact hlt) (by rw [hget]; exact hx))
        clear hx hget
        go_wp2
        go_roundw
        case rel => exact ⟨k + 1, fr, ws, by go_num, rfl, HW.out, HC2.out, hbel⟩
        case measure => simp [intOf]; omega
    · obtain rfl : k = s.size := by omega
      have hfi : (fr : Int) ≤ s.size := by omega
      have HE : Hid (Value.string (s.extract fr s.size) = strV (s.data.toList.drop fr)) := Lib.hid (by
        rw [extract_eq, List.take_of_length_le (by simp)])
      have HL : Hid (splitB c s.data.toList = ws ++ [s.data.toList.drop fr]) := Lib.hid (by
        have h := HC.out
        rw [← Hlen.out] at h
        exact h.last)
      have hown := HW.out
      unfold WordsAt at hown
      go_wp2_with (at_builtin; refine wpList_append_own _ rfl (.tmp 28) (.tmp 32) 35 rfl w.heap.size 9 i0 (.string ByteArray.empty) 1 16 Tryd.underlying35 hi hz0 hz1 hz2 rfl (by decide) _ _ _ rfl (hown.alloc _) ⟨wr.heap.size, 0, none⟩ 1 1 [.string (s.extract fr s.size)] rfl rfl (cell_one_new _ _ _) (fun x hx => by simp at hx; subst hx; rfl) (by unfold maxLen; omega) (by omega) (by simp; omega) ?_; intro v1 w1 hown1 hgrow1 hnil1)
      go_ret
      refine ⟨⟨v1, rfl, ?_⟩, Below.grown (hbel.alloc hsz _) hgrow1 (by simp; omega) (fun k hk => (hown.lt k hk).1)⟩
      unfold WordsAt
      rw [HE.out] at hown1
      rw [HL.out]
      simpa using hown1
end Go.Proofs.YtahhndhaciijpaaDoor
