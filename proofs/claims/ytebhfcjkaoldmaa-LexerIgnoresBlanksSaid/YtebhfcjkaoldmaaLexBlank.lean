/- A row of bytes among the arguments, what blank of layer 4's laws answers, and the pieces of a text without errors. -/
import Derived.Test.YtebhfcjkaoldmaaLexApp
namespace Go.Proofs.Ytebhfcjkaoldmaa
open Go.RowKit Go.ChangeShapes Go.WideShapes

/-- A row of bytes: the cells at 'a' hold 'zs'. -/
structure BytesAt (w : World) (a : Option Addr) (zs : List Int) : Prop where
  size : zs.length ≤ maxLen
  row : 0 < zs.length → ∃ b o, a = some ⟨b, o, none⟩ ∧ b < w.heap.size ∧ ∀ i, i < zs.length → w.cell? ⟨b, o + i, none⟩ = some (.int .u8 (idA zs i))
  fits : ∀ z ∈ zs, 0 ≤ z ∧ z ≤ 255
theorem BytesAt.below {w w' : World} {B : Nat} {a : Option Addr} {zs : List Int} (h : BytesAt w a zs) (hb : Below B w w') (hB : B = w.heap.size) : BytesAt w' a zs := by
  subst hB
  refine ⟨h.size, fun h0 => ?_, h.fits⟩
  obtain ⟨b, o, ha, hlt, hc⟩ := h.row h0
  exact ⟨b, o, ha, Nat.lt_of_lt_of_le hlt hb.size, fun i hi => (hb.cell (p := ⟨b, o + i, none⟩) hlt).trans (hc i hi)⟩
theorem BytesAt.fit {w : World} {a : Option Addr} {zs : List Int} (h : BytesAt w a zs) {i : Nat} (hi : i < zs.length) : 0 ≤ idA zs i ∧ idA zs i ≤ 255 := by
  apply h.fits
  unfold idA
  rw [List.getD_eq_getElem?_getD, List.getElem?_eq_getElem hi]
  exact List.getElem_mem hi
section
variable {H : Type} {enc : TypeId × Value → H} {P : Program} {w : World} {base : Nat} {spare : Nat → Bool} {held : Bool}
theorem wf_u8 {z : Int} (h : (Lit.int .u8 z).wf = true) : 0 ≤ z ∧ z ≤ 255 := by
  simpa [Lit.wf, IntKind.min, IntKind.max, IntKind.signed, IntKind.bits] using h
theorem bytes_of {t e : TypeId} {fuel : Nat} {v : Value} {x : DataW H × List MemPlace} (ht : P.underlying t = some (.slice e)) (he : P.underlying e = some (.int .u8)) (hc : P.cellsOf e = 1)
    (h : DataW.trod enc P w base spare held fuel t [v] = some x) : ∃ a l c zs, v = .slice a l c ∧ l = zs.length ∧ BytesAt w a zs := by
  rcases open_ints ht he hc h with ⟨hcs, _⟩ | ⟨a, len, cap, zs, hcs, _, hl, hm, hz, _, hcell, hwz⟩
  · exact ⟨none, 0, 0, [], by simpa using hcs, rfl, ⟨Nat.zero_le _, fun h0 => absurd h0 (by simp), by simp⟩⟩
  · have hzl : len ≤ zs.length := by rw [hz]; split <;> omega
    refine ⟨some a, len, cap, zs.take len, by simpa using hcs, by simp; omega, ⟨by simp; omega, fun h0 => ?_, fun z hz' => wf_u8 (hwz z (List.mem_of_mem_take hz'))⟩⟩
    rw [List.length_take] at h0
    have h1 := hcell 0 (by omega)
    have hs := World.cell?_spot h1
    obtain ⟨b, o, s⟩ := a
    simp only [Addr.add] at hs
    subst hs
    refine ⟨b, o, rfl, cell_lt h1, fun i hi => ?_⟩
    rw [List.length_take] at hi
    have h2 := hcell i (by omega)
    unfold idA
    rw [getD_take zs 0 (by omega)]
    rw [add_none] at h2
    exact h2
end
/-- what blank answers -/
def sepF (zs : List Int) (i : Nat) : Bytes :=
  if zs.length ≤ i then [32]
  else if idA zs i % 5 = 0 then [10]
  else if idA zs i % 5 = 1 then [9, 32, 13]
  else if idA zs i % 5 = 2 then [35, 32, 97, 32, 58, 61, 32, 98, 59, 10]
  else if idA zs i % 5 = 3 then [32, 35, 10, 35, 10, 32]
  else [32, 32]
theorem sep_len (zs : List Int) (i : Nat) : (sepF zs i).length ≤ 10 := by
  unfold sepF
  split
  · decide
  · split
    · decide
    · split
      · decide
      · split
        · decide
        · split <;> decide
theorem sep_closed (zs : List Int) (i : Nat) : Closed (sepF zs i) := by
  have c32 : Closed [32] := closed_bl rfl closed_nil
  unfold sepF
  split
  · exact c32
  · split
    · exact closed_bl rfl closed_nil
    · split
      · exact closed_bl rfl (closed_bl rfl (closed_bl rfl closed_nil))
      · split
        · exact closed_hash [32, 97, 32, 58, 61, 32, 98, 59] (by decide) closed_nil
        · split
          · exact closed_bl rfl (closed_hash [] (by decide) (closed_hash [] (by decide) c32))
          · exact closed_bl rfl c32
theorem sep_head (zs : List Int) (i : Nat) : ∃ b r, sepF zs i = b :: r ∧ isSep b = true := by
  unfold sepF
  split
  · exact ⟨_, _, rfl, rfl⟩
  · split
    · exact ⟨_, _, rfl, rfl⟩
    · split
      · exact ⟨_, _, rfl, rfl⟩
      · split
        · exact ⟨_, _, rfl, rfl⟩
        · split
          · exact ⟨_, _, rfl, rfl⟩
          · exact ⟨_, _, rfl, rfl⟩
theorem ret_str {a b : Bytes} (h : a = b) : Ending.returned (.string ⟨a.toArray⟩) = .returned (.string ⟨b.toArray⟩) := by rw [h]
set_option maxHeartbeats 2000000 in
theorem blankL_any (a : Option Addr) (c : Nat) (zs : List Int) (i : Nat) (w : World) (hI : BytesAt w a zs) :
    Calls Try.prog 20 #[.slice a zs.length c, .int .i64 (i : Int)] w fun e w' => e = .returned (.string ⟨(sepF zs i).toArray⟩) ∧ w' = w := by
  by_cases h : zs.length ≤ i
  · have HS : Hid (sepF zs i = [32]) := Lib.hid (if_pos h)
    go_enter Try.func20, Try.ntmps20
    go_wp2
    go_ret
    exact ⟨ret_str HS.out.symm, rfl⟩
  obtain ⟨b, o, rfl, hb, hc⟩ := hI.row (by omega)
  have hci := hc i (by omega)
  obtain ⟨hz0, hz1⟩ := hI.fit (i := i) (by omega)
  have hi0 : (0 : Int) ≤ i := by omega
  have hi1 : (i : Int) < zs.length := by omega
  have HS : Hid (sepF zs i = if idA zs i % 5 = 0 then [10] else if idA zs i % 5 = 1 then [9, 32, 13] else if idA zs i % 5 = 2 then [35, 32, 97, 32, 58, 61, 32, 98, 59, 10] else if idA zs i % 5 = 3 then [32, 35, 10, 35, 10, 32] else [32, 32]) := Lib.hid (if_neg h)
  clear hc hI h
  generalize idA zs i = z at *
  by_cases h0 : z % 5 = 0
  · have HE := Lib.hid (HS.out.trans (if_pos h0))
    clear HS
    go_enter Try.func20, Try.ntmps20
    go_wp2
    go_ret
    exact ⟨ret_str HE.out.symm, rfl⟩
  replace HS := Lib.hid (HS.out.trans (if_neg h0))
  have e0 : (z % 5 == 0) = false := by simpa using h0
  by_cases h1 : z % 5 = 1
  · have HE := Lib.hid (HS.out.trans (if_pos h1))
    clear HS
    go_enter Try.func20, Try.ntmps20
    go_wp2
    go_ret
    exact ⟨ret_str HE.out.symm, rfl⟩
  replace HS := Lib.hid (HS.out.trans (if_neg h1))
  have e1 : (z % 5 == 1) = false := by simpa using h1
  by_cases h2 : z % 5 = 2
  · have HE := Lib.hid (HS.out.trans (if_pos h2))
    clear HS
    go_enter Try.func20, Try.ntmps20
    go_wp2
    go_ret
    exact ⟨ret_str HE.out.symm, rfl⟩
  replace HS := Lib.hid (HS.out.trans (if_neg h2))
  have e2 : (z % 5 == 2) = false := by simpa using h2
  by_cases h3 : z % 5 = 3
  · have HE := Lib.hid (HS.out.trans (if_pos h3))
    clear HS
    go_enter Try.func20, Try.ntmps20
    go_wp2
    go_ret
    exact ⟨ret_str HE.out.symm, rfl⟩
  have HE := Lib.hid (HS.out.trans (if_neg h3))
  have e3 : (z % 5 == 3) = false := by simpa using h3
  clear HS
  go_enter Try.func20, Try.ntmps20
  go_wp2
  go_ret
  exact ⟨ret_str HE.out.symm, rfl⟩

/-! ### The pieces of a text without errors -/
def pieceAt (L : Bytes) (ts : List Tok) (zs : List Int) (k : Nat) : Piece :=
  ⟨(L.drop (tkA ts k).at_).take ((tkA ts k).end_ - (tkA ts k).at_), ⟨(tkA ts k).kind, (tkA ts k).end_ - (tkA ts k).at_, (tkA ts k).num⟩, sepF zs k⟩
def pieces (L : Bytes) (ts : List Tok) (zs : List Int) : List Piece := (List.range ts.length).map (pieceAt L ts zs)
theorem pieces_len (L : Bytes) (ts : List Tok) (zs : List Int) : (pieces L ts zs).length = ts.length := by simp [pieces]
theorem pieces_at {L : Bytes} {ts : List Tok} {zs : List Int} {k : Nat} (h : k < ts.length) : (pieces L ts zs)[k]? = some (pieceAt L ts zs k) := by
  unfold pieces
  rw [List.getElem?_map, List.getElem?_range h]
  rfl
theorem piece_tb {L : Bytes} {ts : List Tok} (h : scanB L = .inr ts) (zs : List Int) {k : Nat} (hk : k < ts.length) : (pieceAt L ts zs k).tb.length = (tkA ts k).end_ - (tkA ts k).at_ := by
  have hs := stands h hk
  have h1 := hs.lt
  have h2 := hs.le
  show ((L.drop (tkA ts k).at_).take ((tkA ts k).end_ - (tkA ts k).at_)).length = _
  rw [List.length_take, List.length_drop]
  omega
theorem pieces_good {L : Bytes} {ts : List Tok} (h : scanB L = .inr ts) (zs : List Int) : ∀ x ∈ pieces L ts zs, x.Good := by
  intro x hx
  obtain ⟨k, hk, rfl⟩ := List.mem_map.1 hx
  rw [List.mem_range] at hk
  have hs := stands h hk
  refine ⟨?_, (piece_tb h zs hk).symm, sep_closed zs k, sep_head zs k⟩
  exact tok_take hs.tok (Nat.le_refl _)
theorem text_step {L : Bytes} {ts : List Tok} {zs : List Int} {k : Nat} (hk : k < ts.length) : textOf ((pieces L ts zs).take (k + 1)) = textOf ((pieces L ts zs).take k) ++ ((pieceAt L ts zs k).tb ++ sepF zs k) := by
  have h := pieces_at (L := L) (zs := zs) hk
  rw [List.take_add_one, h, textOf_app]
  show _ ++ ((pieceAt L ts zs k).tb ++ (pieceAt L ts zs k).sp ++ []) = _
  rw [List.append_nil]
  rfl
theorem text_le {L : Bytes} {ts : List Tok} (h : scanB L = .inr ts) (zs : List Int) : ∀ k, k ≤ ts.length → (textOf ((pieces L ts zs).take k)).length ≤ prevE 0 ts k + 10 * k
  | 0, _ => by simp [textOf]
  | k + 1, hk => by
    have ih := text_le h zs k (by omega)
    have hs := stands h (k := k) (by omega)
    have h1 := hs.lt
    have h3 : prevE 0 ts k ≤ (tkA ts k).at_ := by rw [hs.at_]; unfold nextG; omega
    have hp : prevE 0 ts (k + 1) = (tkA ts k).end_ := rfl
    rw [text_step (by omega), List.length_append, List.length_append, piece_tb h zs (by omega), hp]
    have := sep_len zs k
    omega
end Go.Proofs.Ytebhfcjkaoldmaa
