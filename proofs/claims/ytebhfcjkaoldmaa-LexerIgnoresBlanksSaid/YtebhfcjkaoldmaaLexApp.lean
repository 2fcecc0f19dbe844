/- Scans of a text with more behind it, of a part of a text, and of tokens with gaps of one's own between them. No program in sight. -/
import Derived.Test.YtebhfcjkaoldmaaLexPlace
namespace Go.Proofs.Ytebhfcjkaoldmaa

theorem Run.more {b : UInt8} (hb : isSep b = true) (m : Bytes) {i : Nat} {l : Bytes} {ts : List Tok} {j : Nat} {r : Bytes} (h : Run i l ts j r) : ∃ j' r', Run i (l ++ b :: m) ts j' r' ∧ (r ≠ [] → j' = j ∧ r' = r ++ b :: m) := by
  induction h with
  | nil i l =>
    refine ⟨_, _, Run.nil i (l ++ b :: m), fun hr => ?_⟩
    have hg : gapF false l < l.length := by
      rcases Nat.lt_or_ge (gapF false l) l.length with h | h
      · exact h
      · exact absurd (List.drop_eq_nil_of_le h) hr
    rw [gap_app false l _ hg, List.drop_append_of_le_length (by omega)]
    exact ⟨rfl, rfl⟩
  | @cons i l t ts j r h hr ih =>
    have htl := tok_len h
    simp at htl
    have hg : gapF false l < l.length := by omega
    have hne : l.drop (gapF false l) ≠ [] := by
      intro e
      rw [e] at h
      cases h
    obtain ⟨j', r', h1, h2⟩ := ih
    refine ⟨j', r', ?_, h2⟩
    have e := gap_app false l (b :: m) hg
    have h3 : tokF ((l ++ b :: m).drop (gapF false (l ++ b :: m))) = .inr t := by
      rw [e, List.drop_append_of_le_length (by omega), tok_app hne hb]
      exact h
    have h4 := Run.cons (i := i) (ts := ts) (j := j') (r := r') h3 (by
      rw [e, List.drop_append_of_le_length (by omega)]
      exact h1)
    rw [e] at h4
    exact h4
theorem Run.part {i : Nat} {l : Bytes} {ts : List Tok} {j : Nat} {r : Bytes} (h : Run i l ts j r) : Run i (l.take (j - i)) ts j [] := by
  induction h with
  | nil i l =>
    rw [Nat.add_sub_cancel_left]
    have h := Run.nil i (l.take (gapF false l))
    rw [gap_take, Nat.min_self, List.drop_of_length_le (by rw [List.length_take]; omega)] at h
    exact h
  | @cons i l t ts j r h hr ih =>
    have htl := tok_len h
    simp at htl
    have hsz := hr.sizes
    have hij : i + gapF false l + t.len ≤ j := hsz.2.2.2.1
    have e : gapF false (l.take (j - i)) = gapF false l := by rw [gap_take]; omega
    have h3 : tokF ((l.take (j - i)).drop (gapF false (l.take (j - i)))) = .inr t := by
      rw [e, List.drop_take]
      exact tok_take h (by omega)
    have h4 := Run.cons (i := i) (ts := ts) (j := j) (r := []) h3 (by
      rw [e, List.drop_take, show j - i - (gapF false l + t.len) = j - (i + gapF false l + t.len) by omega]
      exact ih)
    rw [e] at h4
    exact h4
theorem run_ok {l : Bytes} {ts : List Tok} {j : Nat} (h : Run 0 l ts j []) (h4 : ts.length ≤ 4096) (hl : l.length ≤ 16384) : scanB l = .inr ts := by
  unfold scanB
  rw [if_neg (by omega), h.scan (by omega)]
  simp [scanR, andThen]
theorem scan_more_ok {l : Bytes} {ts : List Tok} {b : UInt8} {m : Bytes} (h : scanB l = .inr ts) (hb : isSep b = true) (hl : (l ++ b :: m).length ≤ 16384) :
    (∃ x, scanB (l ++ b :: m) = .inl x) ∨ ∃ us, scanB (l ++ b :: m) = .inr (ts ++ us) := by
  obtain ⟨h1, h2, h3⟩ := scan_run h
  obtain ⟨j', r', h4, _⟩ := h1.more hb m
  have h5 := h4.scan (k := 0) (by omega)
  unfold scanB
  rw [if_neg (by omega), h5]
  cases scanR (0 + ts.length) j' r' with
  | inl x => exact .inl ⟨x, rfl⟩
  | inr us => exact .inr ⟨us, rfl⟩
theorem scan_bad_run {l : Bytes} {p f : Nat} (h : scanB l = .inl (p, f)) (hl : l.length ≤ 16384) : ∃ ts r, Run 0 l ts p r ∧ r ≠ [] ∧ ((ts.length = 4096 ∧ f = 3) ∨ (ts.length < 4096 ∧ tokF r = .inl f)) := by
  unfold scanB at h
  rw [if_neg (by omega)] at h
  have := scan_err l.length (Nat.le_refl _) (by omega) h
  simpa using this
theorem scan_more_bad {l : Bytes} {p f : Nat} {b : UInt8} {m : Bytes} (h : scanB l = .inl (p, f)) (hb : isSep b = true) (hl : (l ++ b :: m).length ≤ 16384) :
    p < l.length ∧ (∃ ts, scanB (l.take p) = .inr ts) ∧ scanB (l ++ b :: m) = .inl (p, f) := by
  have hl2 : l.length ≤ 16384 := by rw [List.length_append] at hl; omega
  obtain ⟨ts, r, h1, h2, h3⟩ := scan_bad_run h hl2
  have hsz := h1.sizes
  have hpos := List.length_pos_iff.2 h2
  have hts : ts.length ≤ 4096 := by rcases h3 with h3 | h3 <;> omega
  refine ⟨by omega, ⟨ts, ?_⟩, ?_⟩
  · have h4 := h1.part
    rw [Nat.sub_zero] at h4
    exact run_ok h4 hts (by simp; omega)
  · obtain ⟨j', r', h4, h5⟩ := h1.more hb m
    obtain ⟨rfl, rfl⟩ := h5 h2
    have h6 := h4.scan (k := 0) (by omega)
    unfold scanB
    rw [if_neg (by omega), h6]
    unfold scanR
    rw [if_neg (by simp), Nat.zero_add]
    rcases h3 with ⟨h3, rfl⟩ | ⟨h3, h7⟩
    · rw [if_pos h3]
      rfl
    · rw [if_neg (by omega), tok_app h2 hb, h7]
      rfl

/-! ### Tokens with gaps of one's own -/
/-- a gap that is closed: what follows is no part of it unless it is one -/
def Closed (g : Bytes) : Prop := ∀ m, gapF false (g ++ m) = g.length + gapF false m
theorem closed_nil : Closed [] := fun m => by simp
theorem closed_bl {x : UInt8} (h : isBl x = true) {g : Bytes} (hg : Closed g) : Closed (x :: g) := fun m => by
  have e : (x == 35) = false := by
    simp [isBl] at h
    rcases h with ((rfl | rfl) | rfl) | rfl <;> rfl
  rw [List.cons_append, gapF]
  simp only [e, h, Bool.false_and, Bool.or_false, Bool.or_true, if_true]
  rw [hg m]
  simp
  omega
theorem closed_com : ∀ (c : Bytes) {g : Bytes}, (10 : UInt8) ∉ c → Closed g → ∀ m, gapF true (c ++ 10 :: g ++ m) = (c ++ 10 :: g).length + gapF false m
  | [], g, _, hg, m => by
    rw [List.nil_append, List.cons_append, gapF]
    have e : ((10 : UInt8) == 35 || (true && (10 : UInt8) != 10)) = false := by decide
    have e2 : isBl 10 = true := by decide
    rw [e, e2, if_pos (by rfl), hg m]
    simp
    omega
  | x :: c, g, hc, hg, m => by
    have hx : x ≠ 10 := fun e => hc (by simp [e])
    have ih := closed_com c (g := g) (fun h => hc (by simp [h])) hg m
    rw [List.cons_append, List.cons_append, gapF]
    have e : (x == 35 || (true && x != 10)) = true := by simp [hx]
    rw [e, if_pos (by simp), ih]
    simp
    omega
theorem closed_hash (c : Bytes) {g : Bytes} (hc : (10 : UInt8) ∉ c) (hg : Closed g) : Closed (35 :: (c ++ 10 :: g)) := fun m => by
  rw [List.cons_append, gapF]
  have e : ((35 : UInt8) == 35 || (false && (35 : UInt8) != 10)) = true := by decide
  rw [e, if_pos (by simp), closed_com c hc hg m]
  simp
  omega
/-- a token's bytes, the token, and what stands behind it -/
structure Piece where
  tb : Bytes
  tk : Tk
  sp : Bytes
def Piece.Good (x : Piece) : Prop := tokF x.tb = .inr x.tk ∧ x.tk.len = x.tb.length ∧ Closed x.sp ∧ ∃ b r, x.sp = b :: r ∧ isSep b = true
def textOf : List Piece → Bytes
  | [] => []
  | x :: q => x.tb ++ x.sp ++ textOf q
def layOf (i : Nat) : List Piece → List Tok
  | [] => []
  | x :: q => tokOf i x.tk :: layOf (i + x.tb.length + x.sp.length) q
theorem textOf_app (p q : List Piece) : textOf (p ++ q) = textOf p ++ textOf q := by
  induction p with
  | nil => rfl
  | cons x p ih =>
    show x.tb ++ x.sp ++ textOf (p ++ q) = x.tb ++ x.sp ++ textOf p ++ textOf q
    rw [ih]
    simp
theorem lay_run : ∀ (q : List Piece), (∀ x ∈ q, x.Good) → ∀ (i : Nat) (g : Bytes), Closed g → Run i (g ++ textOf q) (layOf (i + g.length) q) (i + g.length + (textOf q).length) []
  | [], _, i, g, hg => by
    have h := Run.nil i (g ++ textOf [])
    have e : gapF false (g ++ textOf []) = g.length := by rw [hg]; simp [textOf, gapF]
    rw [e] at h
    simp [textOf] at h ⊢
    exact h
  | x :: q, hq, i, g, hg => by
    obtain ⟨h1, h2, h3, b, r, h4, h5⟩ := hq x (by simp)
    have hlen := tok_len h1
    obtain ⟨y, tr, e1, e2, e3⟩ := tok_head h1
    have hgap : gapF false (g ++ textOf (x :: q)) = g.length := by
      rw [hg]
      show g.length + gapF false (x.tb ++ x.sp ++ textOf q) = g.length
      rw [e1, List.cons_append, List.cons_append, gap_none e2 e3]
      rfl
    have hne : x.tb ≠ [] := by rw [e1]; simp
    have htok : tokF ((g ++ textOf (x :: q)).drop (gapF false (g ++ textOf (x :: q)))) = .inr x.tk := by
      rw [hgap, List.drop_left]
      show tokF (x.tb ++ x.sp ++ textOf q) = .inr x.tk
      rw [List.append_assoc, h4, List.cons_append, tok_app hne h5]
      exact h1
    have ih := lay_run q (fun z hz => hq z (by simp [hz])) (i + g.length + x.tb.length) x.sp h3
    have hrest : (g ++ textOf (x :: q)).drop (gapF false (g ++ textOf (x :: q)) + x.tk.len) = x.sp ++ textOf q := by
      rw [hgap, h2, ← List.drop_drop, List.drop_left]
      show (x.tb ++ x.sp ++ textOf q).drop x.tb.length = _
      rw [List.append_assoc, List.drop_left]
    have h := Run.cons (i := i) htok (ts := layOf (i + g.length + x.tb.length + x.sp.length) q) (j := i + g.length + x.tb.length + x.sp.length + (textOf q).length) (r := []) (by
      rw [hrest, hgap, h2]
      exact ih)
    rw [hgap] at h
    have e : i + g.length + (textOf (x :: q)).length = i + g.length + x.tb.length + x.sp.length + (textOf q).length := by
      show _ + (x.tb ++ x.sp ++ textOf q).length = _
      simp
      omega
    rw [e]
    exact h
theorem layOf_len : ∀ (q : List Piece) (i : Nat), (layOf i q).length = q.length
  | [], _ => rfl
  | x :: q, i => by
    show (layOf _ q).length + 1 = q.length + 1
    rw [layOf_len q]
theorem layOf_at : ∀ (q : List Piece) (i k : Nat) (x : Piece), q[k]? = some x → tkA (layOf i q) k = tokOf (i + (textOf (q.take k)).length) x.tk
  | [], _, _, _, h => by simp at h
  | y :: q, i, 0, x, h => by
    obtain rfl : y = x := by simpa using h
    rfl
  | y :: q, i, k + 1, x, h => by
    have ih := layOf_at q (i + y.tb.length + y.sp.length) k x (by simpa using h)
    show tkA (layOf (i + y.tb.length + y.sp.length) q) k = _
    rw [ih, List.take_succ_cons]
    show _ = tokOf (i + (y.tb ++ y.sp ++ textOf (q.take k)).length) x.tk
    congr 1
    simp
    omega
/-- the bytes of the k-th piece in the text of all -/
theorem textOf_part {q : List Piece} {k : Nat} {x : Piece} (h : q[k]? = some x) : ((textOf q).drop (textOf (q.take k)).length).take x.tb.length = x.tb := by
  have hk : k < q.length := by
    rcases Nat.lt_or_ge k q.length with h1 | h1
    · exact h1
    · rw [List.getElem?_eq_none h1] at h; cases h
  have e : q = q.take k ++ (x :: q.drop (k + 1)) := by
    have h2 : q[k] = x := by
      rw [List.getElem?_eq_getElem hk] at h
      simpa using h
    rw [← h2, ← List.drop_eq_getElem_cons hk, List.take_append_drop]
  have e2 : textOf q = textOf (q.take k) ++ (x.tb ++ x.sp ++ textOf (q.drop (k + 1))) := by
    conv => lhs; rw [e, textOf_app]
    rfl
  rw [e2, List.drop_left, List.append_assoc, List.take_left]
end Go.Proofs.Ytebhfcjkaoldmaa
