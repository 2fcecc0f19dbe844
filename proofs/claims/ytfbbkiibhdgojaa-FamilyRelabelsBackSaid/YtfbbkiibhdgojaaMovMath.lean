/- The renumbered graph is valid. -/
import Derived.Test.YtfbbkiibhdgojaaRefF8
import Derived.Test.YtfbbkiibhdgojaaGraph2
import Derived.Test.YtfbbkiibhdgojaaGraph8
import Derived.Test.YtfbbkiibhdgojaaFamMath
namespace Go.Proofs.Ytfbbkiibhdgojaa
open Go.RowKit

theorem permAt_of {zs : List Int} {i : Nat} (h : 0 ≤ idA zs i ∧ idA zs i < zs.length) (hd : ∀ k, k < i → idA zs k ≠ idA zs i) : permAt zs i :=
  ⟨inB_mk ⟨h.1, by omega⟩, hd⟩
theorem permAt_in {zs : List Int} {i : Nat} (h : permAt zs i) : 0 ≤ idA zs i ∧ idA zs i < zs.length := by
  have := h.1
  unfold inB at this
  simp at this
  omega
/-- the answer says whether the row is a permutation -/
def PermSays (zs : List Int) (n : Int) (e : Ending) : Prop := ∃ b, e = .returned (.bool b) ∧ (b = true ↔ permOk zs n)
theorem PermSays.no {zs : List Int} {n : Int} (h : ¬ permOk zs n) : PermSays zs n (.returned (.bool false)) := ⟨false, rfl, nofun, fun h' => absurd h' h⟩
theorem PermSays.yes {zs : List Int} {n : Int} (h : permOk zs n) : PermSays zs n (.returned (.bool true)) := ⟨true, rfl, fun _ => h, fun _ => rfl⟩
set_option maxHeartbeats 1000000 in
theorem permutes_any (a : Option Addr) (c : Nat) (zs : List Int) (n : Nat) (w : World) (hz : IntsAt w a zs) (h24 : n ≤ 24) :
    Calls Try.prog 19 #[.slice a zs.length c, .int .i64 n] w fun e w' => PermSays zs n e ∧ Below w.heap.size w w' := by
  have hm := hz.size
  unfold maxLen at hm
  have HZ := Lib.hid hz
  clear hz
  obtain ⟨m, hml⟩ : ∃ m, m = zs.length := ⟨_, rfl⟩
  have HML := Lib.hid hml
  rw [← hml] at hm ⊢
  clear hml
  go_enter Try.func19, Try.ntmps19
  go_wp2
  go_loopw [5, 10] (fun s t wr => ∃ k S : Nat, k ≤ m ∧ t = .int .i64 k ∧ s = .int .u32 S ∧ S < 4294967296 ∧ (∀ j, S.testBit j = true ↔ ∃ i, i < k ∧ idA zs i = j) ∧ (∀ j, j < k → (0 ≤ idA zs j ∧ idA zs j < n) ∧ ∀ i, i < j → idA zs i ≠ idA zs j) ∧ Below w.heap.size w wr) (fun _ t _ => m - (intOf t).toNat)
  case atStart => exact ⟨0, 0, Nat.zero_le _, rfl, rfl, by decide, fun j => by simp, fun j hj => absurd hj (by omega), Below.refl _ _⟩
  case round =>
    obtain ⟨k, S, hk, rfl, rfl, hS, hbits, hn2, hbel⟩ := hrel
    have Hbits := Lib.hid hbits
    have Hn := Lib.hid hn2
    have HS := Lib.hid hS
    clear hbits hn2 hS
    by_cases hlt : k < m
    · obtain ⟨b, o, e, hb, hc⟩ := HZ.out.row (by rw [← HML.out]; omega)
      subst e
      have hck := (hbel.cell (p := ⟨b, o + k, none⟩) hb).trans (hc k (by rw [← HML.out]; exact hlt))
      clear hc
      by_cases g1 : idA zs k < 0
      · go_wp2
        go_ret
        exact ⟨.no (fun h => by have := permAt_in (h.2 k (by rw [← HML.out]; exact hlt)); omega), hbel⟩
      obtain ⟨d, hd⟩ : ∃ d : Nat, idA zs k = d := ⟨(idA zs k).toNat, by omega⟩
      rw [hd] at hck g1
      have Hd := Lib.hid hd
      clear hd
      by_cases g2 : d < n
      rotate_left
      · go_wp2
        go_ret
        exact ⟨.no (fun h => by have := permAt_in (h.2 k (by rw [← HML.out]; exact hlt)); have h1 := h.1; rw [Hd.out] at this; omega), hbel⟩
      have g3 : (d:Int) < 32 := by omega
      cases hbit : S.testBit d with
      | true =>
        have g4 := bit_in HS.out hbit
        have Hbit := Lib.hid hbit
        clear hbit
        go_wp2
        go_ret
        refine ⟨.no (fun h => ?_), hbel⟩
        obtain ⟨i, hi, e⟩ := (Hbits.out d).1 Hbit.out
        exact absurd (by rw [e, Hd.out]) ((h.2 k (by rw [← HML.out]; exact hlt)).2 i hi)
      | false =>
        have g4 := bit_out HS.out hbit
        have g5 := bit_or HS.out (show d < 32 by omega)
        have Hbit := Lib.hid hbit
        clear hbit
        go_wp2
        go_roundw
        case rel =>
          refine ⟨k + 1, S ||| 2 ^ d, by omega, by go_num, rfl, or_lt HS.out (pow32 (by omega)), fun j => ?_, fun j hj => ?_, hbel⟩
          · rw [or_bit_iff, Hbits.out j]
            constructor
            · rintro (⟨i, hi, e⟩ | e)
              · exact ⟨i, by omega, e⟩
              · exact ⟨k, by omega, by rw [Hd.out, e]⟩
            · rintro ⟨i, hi, e⟩
              rcases Nat.lt_or_ge i k with h | h
              · exact .inl ⟨i, h, e⟩
              · rw [show i = k by omega, Hd.out] at e
                exact .inr (by omega)
          · rcases Nat.lt_or_ge j k with h | h
            · exact Hn.out j h
            · rw [show j = k by omega, Hd.out]
              refine ⟨by omega, fun i hi e => ?_⟩
              have := (Hbits.out d).2 ⟨i, hi, e⟩
              rw [Hbit.out] at this
              cases this
        case measure => simp [intOf]; omega
    · obtain rfl : k = m := by omega
      by_cases hn : (k : Int) = n
      · have hnb : ((k : Int) == n) = true := by simp [hn]
        have Hnn := Lib.hid hn
        clear hn
        go_wp2
        go_ret
        refine ⟨.yes ⟨by rw [← HML.out]; exact Hnn.out, fun i hi => ?_⟩, hbel⟩
        obtain ⟨h1, h2⟩ := Hn.out i (by rw [HML.out]; exact hi)
        exact permAt_of ⟨h1.1, by rw [← HML.out, Hnn.out]; exact h1.2⟩ h2
      · have hnb : ((k : Int) == n) = false := by simp [hn]
        have Hnn := Lib.hid hn
        clear hn
        go_wp2
        go_ret
        exact ⟨.no (fun h => absurd (by rw [HML.out]; exact h.1) Hnn.out), hbel⟩
end Go.Proofs.Ytfbbkiibhdgojaa
namespace Go.Proofs.Ytfbbkiibhdgojaa
open Go.RowKit

section
variable {zs : List Int} {n : Nat}
theorem idA_get {zs : List Int} {i : Nat} (hi : i < zs.length) : idA zs i = zs[i] := by simp [idA, List.getD, hi]
theorem perm_nodup (h : permOk zs n) : zs.Nodup := List.pairwise_iff_getElem.2 fun i j hi hj hij => by
  have := (h.2 j hj).2 i hij
  rwa [idA_get hi, idA_get hj] at this
theorem perm_onto (h : permOk zs n) {u : Nat} (hu : u < n) : (u : Int) ∈ zs := Classical.byContradiction fun hn => by
  have hl : (zs.length : Int) = n := h.1
  have hs : zs ⊆ ((List.range n).map fun i : Nat => (i : Int)).erase (u : Int) := fun z hz => by
    have hne : z ≠ u := fun e => hn (e ▸ hz)
    rw [List.mem_erase_of_ne hne]
    obtain ⟨i, hi, rfl⟩ := List.mem_iff_getElem.1 hz
    have := permAt_in (h.2 i hi)
    rw [idA_get hi] at this
    exact List.mem_map.2 ⟨zs[i].toNat, List.mem_range.2 (by omega), by omega⟩
  have hle := (perm_nodup h).length_le_of_subset hs
  rw [List.length_erase_of_mem (List.mem_map.2 ⟨u, List.mem_range.2 hu, rfl⟩), List.length_map, List.length_range] at hle
  omega
/-- the node that becomes node u -/
def invP (zs : List Int) (u : Nat) : Nat := zs.idxOf (u : Int)
theorem inv_lt (h : permOk zs n) {u : Nat} (hu : u < n) : invP zs u < zs.length := List.idxOf_lt_length_iff.2 (perm_onto h hu)
theorem inv_at (h : permOk zs n) {u : Nat} (hu : u < n) : idA zs (invP zs u) = u := by
  rw [idA_get (inv_lt h hu)]
  exact List.getElem_idxOf (inv_lt h hu)
theorem inv_of (h : permOk zs n) {v : Nat} (hv : v < zs.length) : invP zs (idA zs v).toNat = v := by
  have h1 := permAt_in (h.2 v hv)
  have hl : (zs.length : Int) = n := h.1
  have hu : (idA zs v).toNat < n := by omega
  have e := inv_at h hu
  have hlt := inv_lt h hu
  generalize invP zs (idA zs v).toNat = k at e hlt
  rw [Int.toNat_of_nonneg h1.1] at e
  rcases Nat.lt_trichotomy k v with h2 | h2 | h2
  · exact absurd e ((h.2 v hv).2 k h2)
  · exact h2
  · exact absurd e.symm ((h.2 k hlt).2 v h2)
end
/-- the renumbered graph -/
def movR (G : Gr) (zs : List Int) (u : Nat) : List (Int × Int) := (rowA G.ps (invP zs u)).map fun x => (idA zs x.1.toNat, x.2)
def movG (G : Gr) (zs : List Int) : Gr := ⟨(List.range G.ps.length).map fun u => idA G.ids (invP zs u), (List.range G.ps.length).map (movR G zs)⟩
open Classical in
noncomputable def movO (G : Gr) (zs : List Int) : Int ⊕ Gr :=
  if validB G = true then (if permOk zs G.ps.length then .inr (movG G zs) else .inl 2) else .inl 1
end Go.Proofs.Ytfbbkiibhdgojaa
namespace Go.Proofs.Ytfbbkiibhdgojaa
open Go.RowKit

section
variable {zs : List Int} {n : Nat} {G : Gr}
theorem perm_inj (h : permOk zs n) {a b : Nat} (ha : a < zs.length) (hb : b < zs.length) (e : idA zs a = idA zs b) : a = b := by
  rcases Nat.lt_trichotomy a b with h2 | h2 | h2
  · exact absurd e ((h.2 b hb).2 a h2)
  · exact h2
  · exact absurd e.symm ((h.2 a ha).2 b h2)
/-- a row with its ends renumbered -/
def mvR (zs : List Int) (xs : List (Int × Int)) : List (Int × Int) := xs.map fun x => (idA zs x.1.toNat, x.2)
theorem mvR_len (zs : List Int) (xs : List (Int × Int)) : (mvR zs xs).length = xs.length := by simp [mvR]
theorem mvR_at {zs : List Int} {xs : List (Int × Int)} {i : Nat} (hi : i < xs.length) : toA (mvR zs xs) i = idA zs (toA xs i).toNat ∧ wtA (mvR zs xs) i = wtA xs i := by
  simp [mvR, toA, wtA, List.getD, hi]
theorem movG_len : (movG G zs).ps.length = G.ps.length := by simp [movG]
theorem movG_row {u : Nat} (hu : u < G.ps.length) : rowA (movG G zs).ps u = mvR zs (rowA G.ps (invP zs u)) := by simp [movG, rowA, hu, movR, mvR]
theorem movG_id {u : Nat} (hu : u < G.ps.length) : idA (movG G zs).ids u = idA G.ids (invP zs u) := by simp [movG, idA, hu]
theorem portF_mv (h : permOk zs n) {xs : List (Int × Int)} {v : Nat} (hv : v < n) (hx : ∀ i, i < xs.length → 0 ≤ toA xs i ∧ toA xs i < n) : portF (mvR zs xs) (idA zs v) = portF xs v := by
  have hl : (zs.length : Int) = n := h.1
  have key : ∀ i, i < xs.length → (toA (mvR zs xs) i = idA zs v ↔ toA xs i = v) := fun i hi => by
    rw [(mvR_at hi).1]
    have := hx i hi
    constructor
    · intro e
      have := perm_inj h (by omega) (by omega) e
      omega
    · intro e
      rw [e, Int.toNat_natCast]
  rcases portF_cases xs v with ⟨e, hno⟩ | ⟨k, hk, e, ht, hf⟩
  · rw [e]
    rcases portF_cases (mvR zs xs) (idA zs v) with ⟨e2, _⟩ | ⟨k, hk, _, ht, _⟩
    · exact e2
    · rw [mvR_len] at hk
      exact absurd ((key k hk).1 ht) (hno k hk)
  · rw [e]
    exact portF_found (by rw [mvR_len]; exact hk) ((key k hk).2 ht) (fun j hj e2 => hf j hj ((key j (by omega)).1 e2))
theorem mov_valid (hV : ValidG G) (h : permOk zs G.ps.length) : ValidG (movG G zs) := by
  have hl : (zs.length : Int) = G.ps.length := h.1
  have hil : ∀ u, u < G.ps.length → invP zs u < G.ps.length := fun u hu => by have := inv_lt h hu; omega
  have hto : ∀ v, v < G.ps.length → ∀ i, i < (rowA G.ps v).length → 0 ≤ toA (rowA G.ps v) i ∧ toA (rowA G.ps v) i < G.ps.length := fun v hv i hi => by
    have := (hV.links v hv i hi).1
    omega
  refine ⟨by rw [movG_len]; exact hV.pos, by rw [movG_len]; exact hV.le, by simp [movG], fun u hu => ?_, fun u hu i hi => ?_, fun u hu i hi => ?_⟩
  · rw [movG_len] at hu
    refine ⟨by rw [movG_id hu]; exact (hV.id _ (hil u hu)).1, fun k hk => ?_⟩
    rw [movG_id hu, movG_id (by omega)]
    have hku : k < G.ps.length := by omega
    rcases Nat.lt_trichotomy (invP zs k) (invP zs u) with h2 | h2 | h2
    · exact (hV.id _ (hil u hu)).2 _ h2
    · have e1 := inv_at h hku
      have e2 := inv_at h hu
      rw [h2, e2] at e1
      omega
    · exact fun e => (hV.id _ (hil k hku)).2 _ h2 e.symm
  · rw [movG_len] at hu ⊢
    rw [movG_row hu] at hi ⊢
    rw [mvR_len] at hi
    have hv := hil u hu
    obtain ⟨h1, h2, h3, h4⟩ := hV.links _ hv i hi
    have ht := hto _ hv i hi
    have hp := permAt_in (h.2 (toA (rowA G.ps (invP zs u)) i).toNat (by omega))
    refine ⟨by rw [(mvR_at hi).1]; omega, fun e => ?_, by rw [(mvR_at hi).2]; exact h3, fun k hk e => ?_⟩
    · rw [(mvR_at hi).1, ← inv_at h hu] at e
      have := perm_inj h (by omega) (by omega) e
      omega
    · rw [(mvR_at hi).1, (mvR_at (by omega)).1] at e
      have hk2 := hto _ hv k (by omega)
      have := perm_inj h (by omega) (by omega) e
      exact h4 k hk (by omega)
  · rw [movG_len] at hu
    have hv := hil u hu
    unfold MateOk
    rw [movG_row hu] at hi ⊢
    rw [mvR_len] at hi
    have ht := hto _ hv i hi
    have hm := hV.mate _ hv i hi
    unfold MateOk at hm
    rw [(mvR_at hi).1, (mvR_at hi).2]
    generalize htt : (toA (rowA G.ps (invP zs u)) i).toNat = t at hm ⊢
    have htl : t < G.ps.length := by omega
    have hp := permAt_in (h.2 t (by omega))
    rw [movG_row (by omega), inv_of h (by omega)]
    have e : portF (mvR zs (rowA G.ps t)) u = portF (rowA G.ps t) (invP zs u) := by
      have := portF_mv h (xs := rowA G.ps t) hv (hto t htl)
      rwa [inv_at h hu] at this
    rw [e]
    refine ⟨hm.1, ?_⟩
    rcases portF_cases (rowA G.ps t) (invP zs u) with ⟨e2, _⟩ | ⟨k, hk, e2, _, _⟩
    · have := hm.1
      omega
    · rw [e2, Int.toNat_natCast, (mvR_at hk).2]
      have := hm.2
      rwa [e2, Int.toNat_natCast] at this
end
end Go.Proofs.Ytfbbkiibhdgojaa
