/- A text made of words and gaps: its tokens, its words. No program in it. -/
import Derived.Test.YtckofngclgkajaaLexN
import Derived.Test.YtckofngclgkajaaExprSpell
namespace Go.Proofs.Ytckofngclgkajaa
set_option maxRecDepth 100000

/-- the place behind the token before the k-th one -/
def prevE (i : Nat) (ts : List Tok) : Nat → Nat
  | 0 => i
  | k + 1 => (tkA ts k).end_
theorem prevE_cons (i : Nat) (x : Tok) (ts : List Tok) (k : Nat) : prevE i (x :: ts) (k + 1) = prevE x.end_ ts k := by
  cases k <;> rfl
def nextG (L : Bytes) (p : Nat) : Nat := p + gapF false (L.drop p)
theorem Run.place {L : Bytes} {i : Nat} {l : Bytes} {ts : List Tok} {j : Nat} {r : Bytes} (h : Run i l ts j r) : l = L.drop i →
    (∀ k, k < ts.length → ∃ t, tokF (L.drop (nextG L (prevE i ts k))) = .inr t ∧ tkA ts k = tokOf (nextG L (prevE i ts k)) t) ∧ nextG L (prevE i ts ts.length) = j := by
  induction h with
  | nil i l =>
    rintro rfl
    exact ⟨fun k hk => absurd hk (by simp), rfl⟩
  | @cons i l t ts j r h hr ih =>
    rintro rfl
    have ih2 := ih (by rw [List.drop_drop, Nat.add_assoc])
    obtain ⟨ih3, ih4⟩ := ih2
    have e0 : i + gapF false (L.drop i) = nextG L i := rfl
    rw [e0] at *
    refine ⟨fun k hk => ?_, ?_⟩
    · cases k with
      | zero =>
        refine ⟨t, ?_, rfl⟩
        rw [List.drop_drop] at h
        exact h
      | succ k =>
        rw [prevE_cons]
        exact ih3 k (by simpa using hk)
    · rw [List.length_cons, prevE_cons]
      exact ih4
/-- the k-th token of a text without errors -/
structure Stands (L : Bytes) (ts : List Tok) (k : Nat) : Prop where
  at_ : (tkA ts k).at_ = nextG L (prevE 0 ts k)
  lt : (tkA ts k).at_ < (tkA ts k).end_
  le : (tkA ts k).end_ ≤ L.length
  tok : tokF (L.drop (tkA ts k).at_) = .inr ⟨(tkA ts k).kind, (tkA ts k).end_ - (tkA ts k).at_, (tkA ts k).num⟩
theorem scan_run {L : Bytes} {ts : List Tok} (h : scanB L = .inr ts) : Run 0 L ts L.length [] ∧ ts.length ≤ 4096 ∧ L.length ≤ 16384 := by
  unfold scanB at h
  split at h
  · cases h
  · have := scan_ok L.length (Nat.le_refl _) (by omega) h
    simp at this
    exact ⟨this.1, this.2, by omega⟩
theorem stands {L : Bytes} {ts : List Tok} (h : scanB L = .inr ts) {k : Nat} (hk : k < ts.length) : Stands L ts k := by
  obtain ⟨h1, _, _⟩ := scan_run h
  obtain ⟨h2, _⟩ := h1.place (L := L) rfl
  obtain ⟨t, h3, h4⟩ := h2 k hk
  have h5 := tok_len h3
  simp at h5
  rw [← show (tkA ts k).at_ = nextG L (prevE 0 ts k) by rw [h4]; rfl] at h3 h5
  have e : (tkA ts k).end_ = (tkA ts k).at_ + t.len := by rw [h4]; rfl
  refine ⟨by rw [h4]; rfl, by omega, by omega, ?_⟩
  rw [h3, e, Nat.add_sub_cancel_left]
  rw [h4]
  rfl
theorem ends {L : Bytes} {ts : List Tok} (h : scanB L = .inr ts) : nextG L (prevE 0 ts ts.length) = L.length := by
  obtain ⟨h1, _, _⟩ := scan_run h
  exact (h1.place (L := L) rfl).2
theorem prev_le {L : Bytes} {ts : List Tok} (h : scanB L = .inr ts) {k : Nat} (hk : k ≤ ts.length) : prevE 0 ts k ≤ L.length := by
  cases k with
  | zero => exact Nat.zero_le _
  | succ k => exact (stands h (k := k) (by omega)).le

/-! ### By themselves -/
theorem gap_alone {L : Bytes} {p : Nat} (hL : L.length ≤ 16384) : scanB ((L.drop p).take (nextG L p - p)) = .inr [] := by
  have e : nextG L p - p = gapF false (L.drop p) := by unfold nextG; omega
  have hle := gap_le false (L.drop p)
  simp at hle
  rw [e]
  unfold scanB
  rw [if_neg (by simp; omega), scanG_step, gap_take, Nat.min_self, if_neg (by simp; omega)]
theorem tok_alone {l : Bytes} {t : Tk} (h : tokF l = .inr t) (hl : l.length ≤ 16384) : scanB (l.take t.len) = .inr [⟨t.kind, 0, t.len, t.num⟩] := by
  have h1 := tok_take h (Nat.le_refl _)
  have h2 := tok_len h
  obtain ⟨x, r, e, hx1, hx2⟩ := tok_head h1
  have hg : gapF false (l.take t.len) = 0 := by rw [e]; exact gap_none hx1 hx2
  unfold scanB
  rw [if_neg (by simp; omega), scanG_R, hg, List.drop_zero, scanR_tok h1 (by decide), List.drop_of_length_le (by simp; omega), scanG_step]
  simp [gapF, andThen, tokOf]

/-! ### Numbers -/
theorem bad_list {x : UInt8} {r : Bytes} (hd : isDgt x = true) : badF ((x :: r).take (runF isDgt (x :: r))) = ((x == 48 && decide (1 < runF isDgt (x :: r))) || decide (1073741824 < valF ((x :: r).take (runF isDgt (x :: r))))) := by
  have h1 : runF isDgt (x :: r) = runF isDgt r + 1 := by rw [runF, if_pos hd]
  have h2 := run_le isDgt r
  unfold badF
  congr 2
  · rw [h1, List.take_succ_cons]
    rfl
  · rw [h1, List.take_succ_cons, List.length_cons, List.length_take, Nat.min_eq_left h2]
theorem tok_kind {l : Bytes} {t : Tk} (h : tokF l = .inr t) : (t.kind = 2 ∧ (∀ b ∈ l.take t.len, isDgt b = true) ∧ t.len ≤ 10 ∧ t.num = valF (l.take t.len)) ∨ (t.kind ≠ 2 ∧ t.num = 0) := by
  cases l with
  | nil => cases h
  | cons x r =>
    have hl := tok_len h
    unfold tokF at h
    dsimp only at h
    split at h
    · split at h
      · cases h
      · injection h with h
        subst h
        exact .inr ⟨by simp, rfl⟩
    · split at h
      · rename_i hd
        split at h
        · cases h
        · rename_i h1
          injection h with h
          subst h
          dsimp only at hl ⊢
          have hall := run_all isDgt (x :: r)
          refine .inl ⟨rfl, hall, ?_, rfl⟩
          rcases Nat.lt_or_ge 10 (runF isDgt (x :: r)) with h2 | h2
          · exfalso
            have h3 := bad_long (l := (x :: r).take (runF isDgt (x :: r))) (by rw [List.length_take]; omega) hall
            rw [bad_list hd] at h3
            exact h1 h3
          · exact h2
      · split at h
        · cases h
        · injection h with h
          subst h
          exact .inr ⟨by simp, rfl⟩
end Go.Proofs.Ytckofngclgkajaa
namespace Go.Proofs.Ytckofngclgkajaa
set_option maxRecDepth 100000

theorem Run.more {b : UInt8} (hb : isSep b = true) (m : Bytes) {i : Nat} {l : Bytes} {ts : List Tok} {j : Nat} {r : Bytes} (h : Run i l ts j r) : ∃ j' r', Run i (l ++ b :: m) ts j' r' ∧ (r ≠ [] → j' = j ∧ r' = r ++ b :: m) := by
  induction h with
  | nil i l =>
    refine ⟨_, _, Run.nil i (l ++ b :: m), fun hr => ?_⟩
    have hg : gapF false l < l.length := by
      rcases Nat.lt_or_ge (gapF false l) l.length with h | h
      · exact h
      · exact absurd (List.drop_eq_nil_of_le h) hr
    rw [gap_app false l _ hg, List.drop_append_of_le_length (by omega)]
    exact ⟨rfl, rfl⟩
  | @cons i l t ts j r h hr ih =>
    have htl := tok_len h
    simp at htl
    have hg : gapF false l < l.length := by omega
    have hne : l.drop (gapF false l) ≠ [] := by
      intro e
      rw [e] at h
      cases h
    obtain ⟨j', r', h1, h2⟩ := ih
    refine ⟨j', r', ?_, h2⟩
    have e := gap_app false l (b :: m) hg
    have h3 : tokF ((l ++ b :: m).drop (gapF false (l ++ b :: m))) = .inr t := by
      rw [e, List.drop_append_of_le_length (by omega), tok_app hne hb]
      exact h
    have h4 := Run.cons (i := i) (ts := ts) (j := j') (r := r') h3 (by
      rw [e, List.drop_append_of_le_length (by omega)]
      exact h1)
    rw [e] at h4
    exact h4
theorem Run.part {i : Nat} {l : Bytes} {ts : List Tok} {j : Nat} {r : Bytes} (h : Run i l ts j r) : Run i (l.take (j - i)) ts j [] := by
  induction h with
  | nil i l =>
    rw [Nat.add_sub_cancel_left]
    have h := Run.nil i (l.take (gapF false l))
    rw [gap_take, Nat.min_self, List.drop_of_length_le (by rw [List.length_take]; omega)] at h
    exact h
  | @cons i l t ts j r h hr ih =>
    have htl := tok_len h
    simp at htl
    have hsz := hr.sizes
    have hij : i + gapF false l + t.len ≤ j := hsz.2.2.2.1
    have e : gapF false (l.take (j - i)) = gapF false l := by rw [gap_take]; omega
    have h3 : tokF ((l.take (j - i)).drop (gapF false (l.take (j - i)))) = .inr t := by
      rw [e, List.drop_take]
      exact tok_take h (by omega)
    have h4 := Run.cons (i := i) (ts := ts) (j := j) (r := []) h3 (by
      rw [e, List.drop_take, show j - i - (gapF false l + t.len) = j - (i + gapF false l + t.len) by omega]
      exact ih)
    rw [e] at h4
    exact h4
theorem run_ok {l : Bytes} {ts : List Tok} {j : Nat} (h : Run 0 l ts j []) (h4 : ts.length ≤ 4096) (hl : l.length ≤ 16384) : scanB l = .inr ts := by
  unfold scanB
  rw [if_neg (by omega), h.scan (by omega)]
  simp [scanR, andThen]
theorem scan_more_ok {l : Bytes} {ts : List Tok} {b : UInt8} {m : Bytes} (h : scanB l = .inr ts) (hb : isSep b = true) (hl : (l ++ b :: m).length ≤ 16384) :
    (∃ x, scanB (l ++ b :: m) = .inl x) ∨ ∃ us, scanB (l ++ b :: m) = .inr (ts ++ us) := by
  obtain ⟨h1, h2, h3⟩ := scan_run h
  obtain ⟨j', r', h4, _⟩ := h1.more hb m
  have h5 := h4.scan (k := 0) (by omega)
  unfold scanB
  rw [if_neg (by omega), h5]
  cases scanR (0 + ts.length) j' r' with
  | inl x => exact .inl ⟨x, rfl⟩
  | inr us => exact .inr ⟨us, rfl⟩
theorem scan_bad_run {l : Bytes} {p f : Nat} (h : scanB l = .inl (p, f)) (hl : l.length ≤ 16384) : ∃ ts r, Run 0 l ts p r ∧ r ≠ [] ∧ ((ts.length = 4096 ∧ f = 3) ∨ (ts.length < 4096 ∧ tokF r = .inl f)) := by
  unfold scanB at h
  rw [if_neg (by omega)] at h
  have := scan_err l.length (Nat.le_refl _) (by omega) h
  simpa using this
theorem scan_more_bad {l : Bytes} {p f : Nat} {b : UInt8} {m : Bytes} (h : scanB l = .inl (p, f)) (hb : isSep b = true) (hl : (l ++ b :: m).length ≤ 16384) :
    p < l.length ∧ (∃ ts, scanB (l.take p) = .inr ts) ∧ scanB (l ++ b :: m) = .inl (p, f) := by
  have hl2 : l.length ≤ 16384 := by rw [List.length_append] at hl; omega
  obtain ⟨ts, r, h1, h2, h3⟩ := scan_bad_run h hl2
  have hsz := h1.sizes
  have hpos := List.length_pos_iff.2 h2
  have hts : ts.length ≤ 4096 := by rcases h3 with h3 | h3 <;> omega
  refine ⟨by omega, ⟨ts, ?_⟩, ?_⟩
  · have h4 := h1.part
    rw [Nat.sub_zero] at h4
    exact run_ok h4 hts (by simp; omega)
  · obtain ⟨j', r', h4, h5⟩ := h1.more hb m
    obtain ⟨rfl, rfl⟩ := h5 h2
    have h6 := h4.scan (k := 0) (by omega)
    unfold scanB
    rw [if_neg (by omega), h6]
    unfold scanR
    rw [if_neg (by simp), Nat.zero_add]
    rcases h3 with ⟨h3, rfl⟩ | ⟨h3, h7⟩
    · rw [if_pos h3]
      rfl
    · rw [if_neg (by omega), tok_app h2 hb, h7]
      rfl

/-! ### Tokens with gaps of one's own -/
/-- a gap that is closed: what follows is no part of it unless it is one -/
def Closed (g : Bytes) : Prop := ∀ m, gapF false (g ++ m) = g.length + gapF false m
theorem closed_nil : Closed [] := fun m => by simp
theorem closed_bl {x : UInt8} (h : isBl x = true) {g : Bytes} (hg : Closed g) : Closed (x :: g) := fun m => by
  have e : (x == 35) = false := by
    simp [isBl] at h
    rcases h with ((rfl | rfl) | rfl) | rfl <;> rfl
  rw [List.cons_append, gapF]
  simp only [e, h, Bool.false_and, Bool.or_false, Bool.or_true, if_true]
  rw [hg m]
  simp
  omega
theorem closed_com : ∀ (c : Bytes) {g : Bytes}, (10 : UInt8) ∉ c → Closed g → ∀ m, gapF true (c ++ 10 :: g ++ m) = (c ++ 10 :: g).length + gapF false m
  | [], g, _, hg, m => by
    rw [List.nil_append, List.cons_append, gapF]
    have e : ((10 : UInt8) == 35 || (true && (10 : UInt8) != 10)) = false := by decide
    have e2 : isBl 10 = true := by decide
    rw [e, e2, if_pos (by rfl), hg m]
    simp
    omega
  | x :: c, g, hc, hg, m => by
    have hx : x ≠ 10 := fun e => hc (by simp [e])
    have ih := closed_com c (g := g) (fun h => hc (by simp [h])) hg m
    rw [List.cons_append, List.cons_append, gapF]
    have e : (x == 35 || (true && x != 10)) = true := by simp [hx]
    rw [e, if_pos (by simp), ih]
    simp
    omega
theorem closed_hash (c : Bytes) {g : Bytes} (hc : (10 : UInt8) ∉ c) (hg : Closed g) : Closed (35 :: (c ++ 10 :: g)) := fun m => by
  rw [List.cons_append, gapF]
  have e : ((35 : UInt8) == 35 || (false && (35 : UInt8) != 10)) = true := by decide
  rw [e, if_pos (by simp), closed_com c hc hg m]
  simp
  omega
/-- a token's bytes, the token, and what stands behind it -/
structure Piece where
  tb : Bytes
  tk : Tk
  sp : Bytes
def Piece.Good (x : Piece) : Prop := tokF x.tb = .inr x.tk ∧ x.tk.len = x.tb.length ∧ Closed x.sp ∧ ∃ b r, x.sp = b :: r ∧ isSep b = true
def textOf : List Piece → Bytes
  | [] => []
  | x :: q => x.tb ++ x.sp ++ textOf q
def layOf (i : Nat) : List Piece → List Tok
  | [] => []
  | x :: q => tokOf i x.tk :: layOf (i + x.tb.length + x.sp.length) q
theorem textOf_app (p q : List Piece) : textOf (p ++ q) = textOf p ++ textOf q := by
  induction p with
  | nil => rfl
  | cons x p ih =>
    show x.tb ++ x.sp ++ textOf (p ++ q) = x.tb ++ x.sp ++ textOf p ++ textOf q
    rw [ih]
    simp
theorem lay_run : ∀ (q : List Piece), (∀ x ∈ q, x.Good) → ∀ (i : Nat) (g : Bytes), Closed g → Run i (g ++ textOf q) (layOf (i + g.length) q) (i + g.length + (textOf q).length) []
  | [], _, i, g, hg => by
    have h := Run.nil i (g ++ textOf [])
    have e : gapF false (g ++ textOf []) = g.length := by rw [hg]; simp [textOf, gapF]
    rw [e] at h
    simp [textOf] at h ⊢
    exact h
  | x :: q, hq, i, g, hg => by
    obtain ⟨h1, h2, h3, b, r, h4, h5⟩ := hq x (by simp)
    have hlen := tok_len h1
    obtain ⟨y, tr, e1, e2, e3⟩ := tok_head h1
    have hgap : gapF false (g ++ textOf (x :: q)) = g.length := by
      rw [hg]
      show g.length + gapF false (x.tb ++ x.sp ++ textOf q) = g.length
      rw [e1, List.cons_append, List.cons_append, gap_none e2 e3]
      rfl
    have hne : x.tb ≠ [] := by rw [e1]; simp
    have htok : tokF ((g ++ textOf (x :: q)).drop (gapF false (g ++ textOf (x :: q)))) = .inr x.tk := by
      rw [hgap, List.drop_left]
      show tokF (x.tb ++ x.sp ++ textOf q) = .inr x.tk
      rw [List.append_assoc, h4, List.cons_append, tok_app hne h5]
      exact h1
    have ih := lay_run q (fun z hz => hq z (by simp [hz])) (i + g.length + x.tb.length) x.sp h3
    have hrest : (g ++ textOf (x :: q)).drop (gapF false (g ++ textOf (x :: q)) + x.tk.len) = x.sp ++ textOf q := by
      rw [hgap, h2, ← List.drop_drop, List.drop_left]
      show (x.tb ++ x.sp ++ textOf q).drop x.tb.length = _
      rw [List.append_assoc, List.drop_left]
    have h := Run.cons (i := i) htok (ts := layOf (i + g.length + x.tb.length + x.sp.length) q) (j := i + g.length + x.tb.length + x.sp.length + (textOf q).length) (r := []) (by
      rw [hrest, hgap, h2]
      exact ih)
    rw [hgap] at h
    have e : i + g.length + (textOf (x :: q)).length = i + g.length + x.tb.length + x.sp.length + (textOf q).length := by
      show _ + (x.tb ++ x.sp ++ textOf q).length = _
      simp
      omega
    rw [e]
    exact h
theorem layOf_len : ∀ (q : List Piece) (i : Nat), (layOf i q).length = q.length
  | [], _ => rfl
  | x :: q, i => by
    show (layOf _ q).length + 1 = q.length + 1
    rw [layOf_len q]
theorem layOf_at : ∀ (q : List Piece) (i k : Nat) (x : Piece), q[k]? = some x → tkA (layOf i q) k = tokOf (i + (textOf (q.take k)).length) x.tk
  | [], _, _, _, h => by simp at h
  | y :: q, i, 0, x, h => by
    obtain rfl : y = x := by simpa using h
    rfl
  | y :: q, i, k + 1, x, h => by
    have ih := layOf_at q (i + y.tb.length + y.sp.length) k x (by simpa using h)
    show tkA (layOf (i + y.tb.length + y.sp.length) q) k = _
    rw [ih, List.take_succ_cons]
    show _ = tokOf (i + (y.tb ++ y.sp ++ textOf (q.take k)).length) x.tk
    congr 1
    simp
    omega
/-- the bytes of the k-th piece in the text of all -/
theorem textOf_part {q : List Piece} {k : Nat} {x : Piece} (h : q[k]? = some x) : ((textOf q).drop (textOf (q.take k)).length).take x.tb.length = x.tb := by
  have hk : k < q.length := by
    rcases Nat.lt_or_ge k q.length with h1 | h1
    · exact h1
    · rw [List.getElem?_eq_none h1] at h; cases h
  have e : q = q.take k ++ (x :: q.drop (k + 1)) := by
    have h2 : q[k] = x := by
      rw [List.getElem?_eq_getElem hk] at h
      simpa using h
    rw [← h2, ← List.drop_eq_getElem_cons hk, List.take_append_drop]
  have e2 : textOf q = textOf (q.take k) ++ (x.tb ++ x.sp ++ textOf (q.drop (k + 1))) := by
    conv => lhs; rw [e, textOf_app]
    rfl
  rw [e2, List.drop_left, List.append_assoc, List.take_left]
end Go.Proofs.Ytckofngclgkajaa
namespace Go.Proofs.Ytckofngclgkajaa
set_option maxRecDepth 100000

def ofTok (T : Bytes) (t : Tok) : Pt := ⟨(T.drop t.at_).take (t.end_ - t.at_), t.kind, t.num, t.at_⟩
/-- the reader's surroundings: the tokens of a text -/
def envF (T : Bytes) (ts : List Tok) (ns : List Bytes) : Env := ⟨ts.map (ofTok T), ns, T.length⟩
noncomputable def Env.out (V : Env) : Out := V.read .choice ⟨0, 0, 0⟩
/-- the state behind the last check -/
noncomputable def Env.last (V : Env) : St := if V.out.2.err = 0 ∧ V.out.2.i < V.ts.length then V.fail V.out.2 4 else V.out.2
noncomputable def Env.answer (V : Env) : List (Int × Int) × Nat × Nat :=
  if V.last.err ≠ 0 then ([], V.last.place, V.last.err) else if validE V.out.1 V.ns.length = false then ([], 0, 3) else (V.out.1, 0, 0)
noncomputable def parseF (T : Bytes) (ns : List Bytes) : List (Int × Int) × Nat × Nat :=
  if goodF ns = false then ([], 0, 7) else match scanB T with
    | .inl e => ([], e.1, e.2)
    | .inr ts => (envF T ts ns).answer

theorem last_i (V : Env) : V.last.i = V.out.2.i := by
  unfold Env.last
  split
  · exact fail_i _ _ _
  · rfl
theorem last_told (V : Env) : Told V V.last := by
  obtain ⟨n, hn⟩ := read_some V .choice ⟨0, 0, 0⟩
  have h := run_told hn rfl
  unfold Env.last
  split
  · exact (told_keeps V).fail4 _ h
  · exact h
theorem out_same {V V' : Env} (h : Agree V V' V.last.i) : V'.out = V.out := by
  obtain ⟨n, hn⟩ := read_some V .choice ⟨0, 0, 0⟩
  rw [last_i] at h
  exact read_eq (run_same n _ _ _ hn h)
theorem last_same {V V' : Env} (h : Agree V V' V.last.i) : V'.last = V.last := by
  have ho := out_same h
  rw [last_i] at h
  unfold Env.last
  rw [ho]
  have h1 := h.top
  have h2 := h.length
  by_cases he : V.out.2.err = 0
  · rw [if_pos ⟨he, h2⟩, if_pos ⟨he, h1⟩, h.fail]
  · rw [if_neg (fun k => he k.1), if_neg (fun k => he k.1)]
theorem last_range (V : Env) : V.last.i ≤ V.ts.length := by
  rw [last_i]
  obtain ⟨n, hn⟩ := read_some V .choice ⟨0, 0, 0⟩
  exact (run_fine V _ _ _ _ hn).later.top (Nat.zero_le _)
/-- an error that does not stand at the end stands at a token -/
theorem last_in {V : Env} (he : V.last.err ≠ 0) (hp : V.last.place ≠ V.len) : ∃ x, V.ts[V.last.i]? = some x ∧ V.last.place = x.at_ := by
  rcases last_told V with h | ⟨_, h⟩
  · exact absurd h he
  · unfold Env.here at h
    cases hx : V.ts[V.last.i]? with
    | none =>
      rw [hx] at h
      exact absurd h hp
    | some x =>
      rw [hx] at h
      exact ⟨x, rfl, h⟩
/-- the tokens before the error: the end of the text is the first error's place, if there is one -/
theorem last_cut {V V' : Env} (hns : V'.ns = V.ns) (hts : V'.ts = V.ts.take V.last.i) : V'.last.err = 0 ∨ (V'.last.err = 4 ∧ V'.last.place = V'.len) := by
  have hl : V'.ts.length ≤ V.last.i := by
    rw [hts, List.length_take]
    omega
  rcases last_told V' with h | ⟨h, hp⟩
  · exact .inl h
  · by_cases hi : V'.last.i < V'.ts.length
    · exfalso
      have ha : Agree V' V V'.last.i := by
        refine ⟨hns.symm, fun k hk => ?_, hi⟩
        rw [hts, List.getElem?_take_of_lt (by omega)]
      have e := last_same ha
      rw [e] at hl
      omega
    · right
      refine ⟨by omega, ?_⟩
      rw [hp]
      unfold Env.here
      rw [List.getElem?_eq_none (by omega)]
      rfl
theorem Run.front {i : Nat} {l : Bytes} {ts : List Tok} {j : Nat} {r : Bytes} (h : Run i l ts j r) : ∀ k, k < ts.length → ∃ r', Run i l (ts.take k) (tkA ts k).at_ r' := by
  induction h with
  | nil i l => intro k hk; simp at hk
  | @cons i l t ts j r h hr ih =>
    intro k hk
    cases k with
    | zero => exact ⟨_, Run.nil i l⟩
    | succ k =>
      obtain ⟨r', h2⟩ := ih k (by simpa using hk)
      exact ⟨r', Run.cons h h2⟩
theorem scan_front {T : Bytes} {ts : List Tok} (h : scanB T = .inr ts) {k : Nat} (hk : k < ts.length) : scanB (T.take (tkA ts k).at_) = .inr (ts.take k) := by
  obtain ⟨h1, h2, h3⟩ := scan_run h
  obtain ⟨r, h4⟩ := h1.front k hk
  have h5 := h4.part
  rw [Nat.sub_zero] at h5
  exact run_ok h5 (by rw [List.length_take]; omega) (by rw [List.length_take]; omega)
theorem tkA_at {ts : List Tok} {k : Nat} (hk : k < ts.length) : ts[k]? = some (tkA ts k) := by
  unfold tkA
  rw [List.getD_eq_getElem?_getD, List.getElem?_eq_getElem hk]
  rfl
theorem env_at {T : Bytes} {ts : List Tok} {ns : List Bytes} {k : Nat} (hk : k < ts.length) : (envF T ts ns).ts[k]? = some (ofTok T (tkA ts k)) := by
  show (ts.map (ofTok T))[k]? = _
  rw [List.getElem?_map, tkA_at hk]
  rfl
theorem env_out {T : Bytes} {ts : List Tok} {ns : List Bytes} {k : Nat} (hk : ts.length ≤ k) : (envF T ts ns).ts[k]? = none := List.getElem?_eq_none (by simpa [envF] using hk)
theorem env_len (T : Bytes) (ts : List Tok) (ns : List Bytes) : (envF T ts ns).ts.length = ts.length := by simp [envF]
theorem ofTok_app {T m : Bytes} {t : Tok} (h : t.end_ ≤ T.length) : ofTok (T ++ m) t = ofTok T t := by
  unfold ofTok
  have e : (((T ++ m).drop t.at_).take (t.end_ - t.at_)) = (T.drop t.at_).take (t.end_ - t.at_) := by
    rcases Nat.lt_or_ge T.length t.at_ with h1 | h1
    · have : t.end_ - t.at_ = 0 := by omega
      rw [this]
      simp
    · rw [List.drop_append_of_le_length h1, List.take_append_of_le_length (by rw [List.length_drop]; omega)]
  rw [e]
theorem ofTok_take {T : Bytes} {t : Tok} {p : Nat} (h : t.end_ ≤ p) : ofTok (T.take p) t = ofTok T t := by
  unfold ofTok
  rw [List.drop_take, List.take_take, Nat.min_eq_left (by omega)]
/-- what the error's place says of a text with more behind it, and of the text before it -/
theorem parse_stops {T m : Bytes} {ns : List Bytes} {b : UInt8} {ts us : List Tok} (hs : scanB T = .inr ts) (hb : isSep b = true) (hs2 : scanB (T ++ b :: m) = .inr us)
    (hf : (parseF T ns).2.2 = 4 ∨ (parseF T ns).2.2 = 5) (hp : (parseF T ns).2.1 ≠ T.length) :
    (parseF T ns).2.1 ≤ T.length ∧ (parseF (T ++ b :: m) ns).2 = (parseF T ns).2 ∧
      ((parseF (T.take (parseF T ns).2.1) ns).2.2 = 0 ∨ (parseF (T.take (parseF T ns).2.1) ns).2.2 = 3 ∨ ((parseF (T.take (parseF T ns).2.1) ns).2.2 = 4 ∧ (parseF (T.take (parseF T ns).2.1) ns).2.1 = (parseF T ns).2.1)) ∧
      (envF (T ++ b :: m) us ns).out = (envF T ts ns).out := by
  by_cases hg : goodF ns = false
  · unfold parseF at hf
    rw [if_pos hg] at hf
    simp at hf
  obtain ⟨V, hV⟩ : ∃ V, V = envF T ts ns := ⟨_, rfl⟩
  have e : parseF T ns = V.answer := by
    unfold parseF
    rw [if_neg hg, hs, hV]
  rw [e] at hf hp ⊢
  have hle : V.last.err ≠ 0 := by
    intro h0
    unfold Env.answer at hf
    rw [if_neg (by simpa using h0)] at hf
    split at hf <;> simp at hf
  have ea : V.answer = ([], V.last.place, V.last.err) := by
    unfold Env.answer
    rw [if_pos hle]
  rw [ea] at hf hp ⊢
  dsimp only at hf hp ⊢
  have hlen : V.len = T.length := by rw [hV]; rfl
  obtain ⟨x, hx, hpl⟩ := last_in hle (by rw [hlen]; exact hp)
  have hi : V.last.i < ts.length := by
    rcases Nat.lt_or_ge V.last.i ts.length with h1 | h1
    · exact h1
    · rw [hV] at hx h1
      rw [env_out h1] at hx
      cases hx
  obtain ⟨i, hi2⟩ : ∃ i, i = V.last.i := ⟨_, rfl⟩
  rw [← hi2] at hx hi
  have hxe : x = ofTok T (tkA ts i) := by
    rw [hV, env_at hi] at hx
    exact (Option.some.inj hx).symm
  have hpa : V.last.place = (tkA ts i).at_ := by rw [hpl, hxe]; rfl
  have hst := stands hs hi
  obtain ⟨zs, hz⟩ : ∃ zs, us = ts ++ zs := by
    have h3 := (scan_run hs2).2.2
    rcases scan_more_ok hs hb h3 with ⟨y, hy⟩ | ⟨zs, hy⟩
    · rw [hs2] at hy; cases hy
    · rw [hs2] at hy
      exact ⟨zs, Sum.inr.inj hy⟩
  have e2 : parseF (T ++ b :: m) ns = (envF (T ++ b :: m) us ns).answer := by
    unfold parseF
    rw [if_neg hg, hs2]
  have ha : Agree V (envF (T ++ b :: m) us ns) V.last.i := by
    refine ⟨by rw [hV]; rfl, fun k hk => ?_, by rw [hV, env_len, ← hV, ← hi2]; exact hi⟩
    have hk2 : k < ts.length := by omega
    have hk3 : k < us.length := by rw [hz, List.length_append]; omega
    rw [hV, env_at hk2, env_at hk3]
    have e3 : tkA us k = tkA ts k := by
      have h1 := tkA_at hk3
      rw [hz, List.getElem?_append_left hk2, tkA_at hk2] at h1
      rw [hz]
      exact (Option.some.inj h1).symm
    rw [e3, ofTok_app (stands hs hk2).le]
  refine ⟨by have := hst.lt; have := hst.le; omega, ?_, ?_, by rw [out_same ha, hV]⟩
  · rw [e2]
    unfold Env.answer
    rw [last_same ha, if_pos hle]
  · rw [hpa]
    have hsc := scan_front hs hi
    obtain ⟨p, hpe⟩ : ∃ p, p = (tkA ts i).at_ := ⟨_, rfl⟩
    rw [← hpe] at hsc ⊢
    have e2 : parseF (T.take p) ns = (envF (T.take p) (ts.take i) ns).answer := by
      unfold parseF
      rw [if_neg hg, hsc]
    obtain ⟨V', hV'⟩ : ∃ V', V' = envF (T.take p) (ts.take i) ns := ⟨_, rfl⟩
    rw [e2, ← hV']
    have hts : V'.ts = V.ts.take V.last.i := by
      rw [← hi2, hV, hV']
      show (ts.take i).map (ofTok (T.take p)) = (ts.map (ofTok T)).take i
      rw [← List.map_take]
      apply List.map_congr_left
      intro t ht
      obtain ⟨k, hk, rfl⟩ := List.mem_iff_getElem.1 ht
      have h1 := (stands hsc hk).le
      have h2 := tkA_at hk
      rw [List.getElem?_eq_getElem hk] at h2
      rw [← Option.some.inj h2] at h1
      rw [List.length_take] at h1
      exact ofTok_take (by omega)
    have hlen2 : V'.len = p := by
      rw [hV']
      show (T.take p).length = p
      have := hst.lt
      have := hst.le
      rw [List.length_take]
      omega
    have hc := last_cut (V := V) (V' := V') (by rw [hV, hV']; rfl) hts
    unfold Env.answer
    rcases hc with h0 | ⟨h4, h5⟩
    · rw [if_neg (by simpa using h0)]
      split
      · exact .inr (.inl rfl)
      · exact .inl rfl
    · rw [if_pos (by omega), h4, h5, hlen2]
      exact .inr (.inr ⟨rfl, rfl⟩)
end Go.Proofs.Ytckofngclgkajaa
namespace Go.Proofs.Ytckofngclgkajaa
set_option maxRecDepth 100000

/-- a word may stand before a byte -/
def joint (w : Bytes) (b : UInt8) : Bool := match w with
  | [] => false
  | x :: r => if isLet x || isDgt x then !isIn b else !twos.contains ((x :: r).take 1 ++ [b])  || decide (r ≠ [])
theorem dgt_in {b : UInt8} (h : isIn b = false) : isDgt b = false := by
  unfold isIn at h
  cases hd : isDgt b with
  | false => rfl
  | true => rw [hd] at h; simp at h
theorem tok_joint {w m : Bytes} {b : UInt8} {t : Tk} (h : tokF w = .inr t) (hl : t.len = w.length) (hj : joint w b = true) : tokF (w ++ b :: m) = .inr t := by
  cases w with
  | nil => cases h
  | cons x r =>
    unfold joint at hj
    dsimp only at hj
    unfold tokF at h
    dsimp only at h
    rw [List.cons_append]
    unfold tokF
    dsimp only
    rw [← List.cons_append]
    by_cases hx : isLet x = true
    · rw [if_pos hx] at h ⊢
      rw [hx, Bool.true_or, if_pos rfl] at hj
      rw [run_app isIn (by simpa using hj)]
      exact h
    · rw [if_neg hx] at h ⊢
      by_cases hd : isDgt x = true
      · rw [if_pos hd] at h ⊢
        rw [hd, Bool.or_true, if_pos rfl] at hj
        rw [run_app isDgt (dgt_in (by simpa using hj)), List.take_append_of_le_length (run_le _ _)]
        exact h
      · rw [if_neg hd] at h ⊢
        rw [if_neg (by simp [hx, hd])] at hj
        have key : signF ((x :: r) ++ b :: m) = signF (x :: r) := by
          rw [List.cons_append, sign_cons, sign_cons]
          cases r with
          | nil =>
            have hj2 : twos.contains [x, b] = false := by simpa using hj
            have e : (x :: ([] ++ b :: m)).take 2 = [x, b] := rfl
            have e2 : ([x] : Bytes).take 2 = [x] := rfl
            rw [e, hj2, e2, two_one]
          | cons y r => rfl
        rw [key]
        exact h

/-- words, and the gap behind each -/
abbrev Pcs := List (Bytes × Bytes)
def textP : Pcs → Bytes
  | [] => []
  | x :: P => x.1 ++ (x.2 ++ textP P)
def headP : Pcs → Option UInt8 → Option UInt8
  | [], nx => nx
  | x :: _, _ => x.1.head?
def okP : Pcs → Option UInt8 → Prop
  | [], _ => True
  | x :: P, nx => ((∃ t, tokF x.1 = .inr t ∧ t.len = x.1.length) ∧ Closed x.2 ∧ (x.2 = [] ∨ ∃ b r, x.2 = b :: r ∧ isSep b = true) ∧ (x.2 = [] → ∀ b, headP P nx = some b → joint x.1 b = true)) ∧ okP P nx
theorem textP_app : ∀ (P Q : Pcs), textP (P ++ Q) = textP P ++ textP Q
  | [], Q => rfl
  | x :: P, Q => by
    show x.1 ++ (x.2 ++ textP (P ++ Q)) = (x.1 ++ (x.2 ++ textP P)) ++ textP Q
    rw [textP_app P Q]
    simp
theorem headP_app : ∀ (P Q : Pcs) (nx : Option UInt8), headP (P ++ Q) nx = headP P (headP Q nx)
  | [], _, _ => rfl
  | _ :: _, _, _ => rfl
theorem okP_app : ∀ {P Q : Pcs} {nx : Option UInt8}, okP P (headP Q nx) → okP Q nx → okP (P ++ Q) nx
  | [], Q, nx, _, h => h
  | x :: P, Q, nx, h, k => by
    obtain ⟨⟨h1, h2, h3, h4⟩, h5⟩ := h
    exact ⟨⟨h1, h2, h3, fun e b hb => h4 e b (by rw [← headP_app]; exact hb)⟩, okP_app h5 k⟩
/-- where the tokens stand -/
def layP (i : Nat) : Pcs → List Tok
  | [] => []
  | x :: P => ⟨kindW x.1, i, i + x.1.length, numW x.1⟩ :: layP (i + x.1.length + x.2.length) P
theorem headP_text : ∀ (P : Pcs), (∀ x ∈ P, x.1 ≠ []) → (textP P).head? = headP P none
  | [], _ => rfl
  | x :: P, h => by
    have := h x (by simp)
    obtain ⟨w, g⟩ := x
    cases w with
    | nil => exact absurd rfl this
    | cons b r => rfl
theorem okP_word : ∀ {P : Pcs} {nx : Option UInt8}, okP P nx → ∀ x ∈ P, ∃ t, tokF x.1 = .inr t ∧ t.len = x.1.length
  | [], _, _, x, hx => by simp at hx
  | y :: P, nx, h, x, hx => by
    rcases List.mem_cons.1 hx with rfl | hx
    · exact h.1.1
    · exact okP_word h.2 x hx
theorem tok_pos {w : Bytes} {t : Tk} (h : tokF w = .inr t) : w ≠ [] := by rintro rfl; cases h
theorem run_lay : ∀ (P : Pcs), okP P none → ∀ (i : Nat) (g : Bytes), Closed g → Run i (g ++ textP P) (layP (i + g.length) P) (i + g.length + (textP P).length) []
  | [], _, i, g, hg => by
    have h := Run.nil i (g ++ textP [])
    have e : gapF false (g ++ textP []) = g.length := by rw [hg]; simp [textP, gapF]
    rw [e] at h
    simp [textP] at h ⊢
    exact h
  | x :: P, hP, i, g, hg => by
    obtain ⟨⟨⟨t, h1, h2⟩, h3, h4, h5⟩, h6⟩ := hP
    have hlen := tok_len h1
    obtain ⟨y, tr, e1, e2, e3⟩ := tok_head h1
    have hgap : gapF false (g ++ textP (x :: P)) = g.length := by
      rw [hg]
      show g.length + gapF false (x.1 ++ (x.2 ++ textP P)) = g.length
      rw [e1, List.cons_append, gap_none e2 e3]
      rfl
    have hne : x.1 ≠ [] := tok_pos h1
    have htok0 : tokF (x.1 ++ (x.2 ++ textP P)) = .inr t := by
      rcases h4 with h4 | ⟨b, r, h4, hb⟩
      · rw [h4, List.nil_append]
        have hh := headP_text P (fun z hz => by
          obtain ⟨t', ht, _⟩ := okP_word h6 z hz
          exact tok_pos ht)
        cases htp : textP P with
        | nil => rw [List.append_nil]; exact h1
        | cons b m =>
          rw [htp] at hh
          exact tok_joint h1 h2 (h5 h4 b hh.symm)
      · rw [h4, List.cons_append, tok_app hne hb]
        exact h1
    have htok : tokF ((g ++ textP (x :: P)).drop (gapF false (g ++ textP (x :: P)))) = .inr t := by
      rw [hgap, List.drop_left]
      exact htok0
    have ih := run_lay P h6 (i + g.length + x.1.length) x.2 h3
    have hrest : (g ++ textP (x :: P)).drop (gapF false (g ++ textP (x :: P)) + t.len) = x.2 ++ textP P := by
      rw [hgap, h2, ← List.drop_drop, List.drop_left]
      show (x.1 ++ (x.2 ++ textP P)).drop x.1.length = _
      rw [List.drop_left]
    have h := Run.cons (i := i) htok (ts := layP (i + g.length + x.1.length + x.2.length) P) (j := i + g.length + x.1.length + x.2.length + (textP P).length) (r := []) (by
      rw [hrest, hgap, h2]
      exact ih)
    rw [hgap] at h
    have e : i + g.length + (textP (x :: P)).length = i + g.length + x.1.length + x.2.length + (textP P).length := by
      show _ + (x.1 ++ (x.2 ++ textP P)).length = _
      simp
      omega
    have et : tokOf (i + g.length) t = ⟨kindW x.1, i + g.length, i + g.length + x.1.length, numW x.1⟩ := by
      unfold tokOf kindW numW
      rw [h1, h2]
    rw [et] at h
    rw [e]
    exact h
theorem layP_len : ∀ (P : Pcs) (i : Nat), (layP i P).length = P.length
  | [], _ => rfl
  | x :: P, i => by
    show (layP _ P).length + 1 = P.length + 1
    rw [layP_len P]
theorem scan_lay {P : Pcs} (h : okP P none) (h4 : P.length ≤ 4096) (hl : (textP P).length ≤ 16384) : scanB (textP P) = .inr (layP 0 P) := by
  have h1 := run_lay P h 0 [] closed_nil
  rw [List.nil_append] at h1
  exact run_ok h1 (by rw [layP_len]; exact h4) hl
theorem lay_words {L : Bytes} : ∀ (P : Pcs) (i : Nat), L.drop i = textP P → (layP i P).map (fun t => (ofTok L t).word) = P.map Prod.fst
  | [], _, _ => rfl
  | x :: P, i, h => by
    show ((L.drop i).take (i + x.1.length - i)) :: (layP (i + x.1.length + x.2.length) P).map (fun t => (ofTok L t).word) = x.1 :: P.map Prod.fst
    rw [lay_words P]
    · rw [h, Nat.add_sub_cancel_left]
      show (x.1 ++ (x.2 ++ textP P)).take x.1.length :: _ = _
      rw [List.take_left]
    · rw [← List.drop_drop, ← List.drop_drop, h]
      show ((x.1 ++ (x.2 ++ textP P)).drop x.1.length).drop x.2.length = _
      rw [List.drop_left, List.drop_left]
theorem lay_kinds : ∀ (P : Pcs) (i : Nat) (t : Tok), t ∈ layP i P → ∃ w g, (w, g) ∈ P ∧ t.kind = kindW w ∧ t.num = numW w ∧ t.end_ = t.at_ + w.length
  | [], _, t, h => by simp [layP] at h
  | x :: P, i, t, h => by
    rcases List.mem_cons.1 h with rfl | h
    · exact ⟨x.1, x.2, by simp, rfl, rfl, rfl⟩
    · obtain ⟨w, g, h1, h2⟩ := lay_kinds P _ t h
      exact ⟨w, g, by simp [h1], h2⟩
/-- the words of a scanned text are fair -/
theorem env_fair {T : Bytes} {ts : List Tok} {ns : List Bytes} (h : scanB T = .inr ts) : (envF T ts ns).Fair := by
  intro x hx
  unfold envF at hx
  simp only [List.mem_map] at hx
  obtain ⟨t, ht, rfl⟩ := hx
  obtain ⟨k, hk, rfl⟩ := List.mem_iff_getElem.1 ht
  have h1 := stands h hk
  have h2 := tkA_at hk
  rw [List.getElem?_eq_getElem hk] at h2
  rw [Option.some.inj h2]
  have h3 := tok_take h1.tok (Nat.le_refl _)
  unfold ofTok kindW numW
  dsimp only at h3 ⊢
  rw [h3]
  exact ⟨rfl, rfl⟩
/-- a text whose words spell a valid expression is read as it -/
theorem parse_text {P : Pcs} {ns : List Bytes} {e : List (Int × Int)} (hg : goodF ns = true) (h : okP P none) (h4 : P.length ≤ 4096) (hl : (textP P).length ≤ 16384) (hs : Spell ns 1 (P.map Prod.fst) e) (hv : validE e ns.length = true) : parseF (textP P) ns = (e, 0, 0) := by
  have hsc := scan_lay h h4 hl
  obtain ⟨V, hV⟩ : ∃ V, V = envF (textP P) (layP 0 P) ns := ⟨_, rfl⟩
  have hw : V.words = P.map Prod.fst := by
    rw [hV, ← lay_words (L := textP P) P 0 rfl]
    unfold Env.words envF
    rw [List.map_map]
    rfl
  have hns : V.ns = ns := by rw [hV]; rfl
  have hF : V.Fair := by rw [hV]; exact env_fair hsc
  have hn : V.ts.length = P.length := by rw [hV, env_len, layP_len]
  have ho : V.out = (e, ⟨(P.map Prod.fst).length, 0, 0⟩) := spell_out hF (by rw [hns]; exact hs) hw
  have hlast : V.last = ⟨(P.map Prod.fst).length, 0, 0⟩ := by
    unfold Env.last
    rw [ho, if_neg]
    rintro ⟨_, h⟩
    rw [hn] at h
    simp at h
  unfold parseF
  rw [if_neg (by rw [hg]; decide), hsc]
  dsimp only
  rw [← hV]
  unfold Env.answer
  rw [hlast, if_neg (by simp), ho, hns, if_neg (by dsimp only; rw [hv]; decide)]
end Go.Proofs.Ytckofngclgkajaa
