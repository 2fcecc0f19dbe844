/- Where the tokens of a scan stand, and what their bytes are by themselves. No program in sight. -/
import Derived.Test.YtebhfcjkaoldmaaLexA
namespace Go.Proofs.Ytebhfcjkaoldmaa

/-- the place behind the token before the k-th one -/
def prevE (i : Nat) (ts : List Tok) : Nat → Nat
  | 0 => i
  | k + 1 => (tkA ts k).end_
theorem prevE_cons (i : Nat) (x : Tok) (ts : List Tok) (k : Nat) : prevE i (x :: ts) (k + 1) = prevE x.end_ ts k := by
  cases k <;> rfl
def nextG (L : Bytes) (p : Nat) : Nat := p + gapF false (L.drop p)
theorem Run.place {L : Bytes} {i : Nat} {l : Bytes} {ts : List Tok} {j : Nat} {r : Bytes} (h : Run i l ts j r) : l = L.drop i →
    (∀ k, k < ts.length → ∃ t, tokF (L.drop (nextG L (prevE i ts k))) = .inr t ∧ tkA ts k = tokOf (nextG L (prevE i ts k)) t) ∧ nextG L (prevE i ts ts.length) = j := by
  induction h with
  | nil i l =>
    rintro rfl
    exact ⟨fun k hk => absurd hk (by simp), rfl⟩
  | @cons i l t ts j r h hr ih =>
    rintro rfl
    have ih2 := ih (by rw [List.drop_drop, Nat.add_assoc])
    obtain ⟨ih3, ih4⟩ := ih2
    have e0 : i + gapF false (L.drop i) = nextG L i := rfl
    rw [e0] at *
    refine ⟨fun k hk => ?_, ?_⟩
    · cases k with
      | zero =>
        refine ⟨t, ?_, rfl⟩
        rw [List.drop_drop] at h
        exact h
      | succ k =>
        rw [prevE_cons]
        exact ih3 k (by simpa using hk)
    · rw [List.length_cons, prevE_cons]
      exact ih4
/-- the k-th token of a text without errors -/
structure Stands (L : Bytes) (ts : List Tok) (k : Nat) : Prop where
  at_ : (tkA ts k).at_ = nextG L (prevE 0 ts k)
  lt : (tkA ts k).at_ < (tkA ts k).end_
  le : (tkA ts k).end_ ≤ L.length
  tok : tokF (L.drop (tkA ts k).at_) = .inr ⟨(tkA ts k).kind, (tkA ts k).end_ - (tkA ts k).at_, (tkA ts k).num⟩
theorem scan_run {L : Bytes} {ts : List Tok} (h : scanB L = .inr ts) : Run 0 L ts L.length [] ∧ ts.length ≤ 4096 ∧ L.length ≤ 16384 := by
  unfold scanB at h
  split at h
  · cases h
  · have := scan_ok L.length (Nat.le_refl _) (by omega) h
    simp at this
    exact ⟨this.1, this.2, by omega⟩
theorem stands {L : Bytes} {ts : List Tok} (h : scanB L = .inr ts) {k : Nat} (hk : k < ts.length) : Stands L ts k := by
  obtain ⟨h1, _, _⟩ := scan_run h
  obtain ⟨h2, _⟩ := h1.place (L := L) rfl
  obtain ⟨t, h3, h4⟩ := h2 k hk
  have h5 := tok_len h3
  simp at h5
  rw [← show (tkA ts k).at_ = nextG L (prevE 0 ts k) by rw [h4]; rfl] at h3 h5
  have e : (tkA ts k).end_ = (tkA ts k).at_ + t.len := by rw [h4]; rfl
  refine ⟨by rw [h4]; rfl, by omega, by omega, ?_⟩
  rw [h3, e, Nat.add_sub_cancel_left]
  rw [h4]
  rfl
theorem ends {L : Bytes} {ts : List Tok} (h : scanB L = .inr ts) : nextG L (prevE 0 ts ts.length) = L.length := by
  obtain ⟨h1, _, _⟩ := scan_run h
  exact (h1.place (L := L) rfl).2
theorem prev_le {L : Bytes} {ts : List Tok} (h : scanB L = .inr ts) {k : Nat} (hk : k ≤ ts.length) : prevE 0 ts k ≤ L.length := by
  cases k with
  | zero => exact Nat.zero_le _
  | succ k => exact (stands h (k := k) (by omega)).le

/-! ### By themselves -/
theorem gap_alone {L : Bytes} {p : Nat} (hL : L.length ≤ 16384) : scanB ((L.drop p).take (nextG L p - p)) = .inr [] := by
  have e : nextG L p - p = gapF false (L.drop p) := by unfold nextG; omega
  have hle := gap_le false (L.drop p)
  simp at hle
  rw [e]
  unfold scanB
  rw [if_neg (by simp; omega), scanG_step, gap_take, Nat.min_self, if_neg (by simp; omega)]
theorem tok_alone {l : Bytes} {t : Tk} (h : tokF l = .inr t) (hl : l.length ≤ 16384) : scanB (l.take t.len) = .inr [⟨t.kind, 0, t.len, t.num⟩] := by
  have h1 := tok_take h (Nat.le_refl _)
  have h2 := tok_len h
  obtain ⟨x, r, e, hx1, hx2⟩ := tok_head h1
  have hg : gapF false (l.take t.len) = 0 := by rw [e]; exact gap_none hx1 hx2
  unfold scanB
  rw [if_neg (by simp; omega), scanG_R, hg, List.drop_zero, scanR_tok h1 (by decide), List.drop_of_length_le (by simp; omega), scanG_step]
  simp [gapF, andThen, tokOf]

/-! ### Numbers -/
theorem bad_list {x : UInt8} {r : Bytes} (hd : isDgt x = true) : badF ((x :: r).take (runF isDgt (x :: r))) = ((x == 48 && decide (1 < runF isDgt (x :: r))) || decide (1073741824 < valF ((x :: r).take (runF isDgt (x :: r))))) := by
  have h1 : runF isDgt (x :: r) = runF isDgt r + 1 := by rw [runF, if_pos hd]
  have h2 := run_le isDgt r
  unfold badF
  congr 2
  · rw [h1, List.take_succ_cons]
    rfl
  · rw [h1, List.take_succ_cons, List.length_cons, List.length_take, Nat.min_eq_left h2]
theorem tok_kind {l : Bytes} {t : Tk} (h : tokF l = .inr t) : (t.kind = 2 ∧ (∀ b ∈ l.take t.len, isDgt b = true) ∧ t.len ≤ 10 ∧ t.num = valF (l.take t.len)) ∨ (t.kind ≠ 2 ∧ t.num = 0) := by
  cases l with
  | nil => cases h
  | cons x r =>
    have hl := tok_len h
    unfold tokF at h
    dsimp only at h
    split at h
    · split at h
      · cases h
      · injection h with h
        subst h
        exact .inr ⟨by simp, rfl⟩
    · split at h
      · rename_i hd
        split at h
        · cases h
        · rename_i h1
          injection h with h
          subst h
          dsimp only at hl ⊢
          have hall := run_all isDgt (x :: r)
          refine .inl ⟨rfl, hall, ?_, rfl⟩
          rcases Nat.lt_or_ge 10 (runF isDgt (x :: r)) with h2 | h2
          · exfalso
            have h3 := bad_long (l := (x :: r).take (runF isDgt (x :: r))) (by rw [List.length_take]; omega) hall
            rw [bad_list hd] at h3
            exact h1 h3
          · exact h2
      · split at h
        · cases h
        · injection h with h
          subst h
          exact .inr ⟨by simp, rfl⟩
end Go.Proofs.Ytebhfcjkaoldmaa
