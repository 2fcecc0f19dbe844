/- Expressions as trees, the text that Format writes of one, and the text with everything in brackets: both are read as the expression. No program in it. -/
import Derived.Test.YtdbahiepihkagaaGreatDoorExprSame
import Derived.Test.YtdbahiepihkagaaGreatDoorLexApp
import Derived.Test.YtdbahiepihkagaaGreatDoorTermTop
namespace Go.Proofs.YtdbahiepihkagaaGreatDoor
set_option maxRecDepth 100000

def ofTok (T : Bytes) (t : Tok) : Pt := ⟨(T.drop t.at_).take (t.end_ - t.at_), t.kind, t.num, t.at_⟩
/-- the reader's surroundings: the tokens of a text -/
def envF (T : Bytes) (ts : List Tok) (ns : List Bytes) : Env := ⟨ts.map (ofTok T), ns, T.length⟩
noncomputable def Env.out (V : Env) : Out := V.read .choice ⟨0, 0, 0⟩
/-- the state behind the last check -/
noncomputable def Env.last (V : Env) : St := if V.out.2.err = 0 ∧ V.out.2.i < V.ts.length then V.fail V.out.2 4 else V.out.2
noncomputable def Env.answer (V : Env) : List (Int × Int) × Nat × Nat :=
  if V.last.err ≠ 0 then ([], V.last.place, V.last.err) else if validE V.out.1 V.ns.length = false then ([], 0, 3) else (V.out.1, 0, 0)
noncomputable def parseF (T : Bytes) (ns : List Bytes) : List (Int × Int) × Nat × Nat :=
  if goodF ns = false then ([], 0, 7) else match scanB T with
    | .inl e => ([], e.1, e.2)
    | .inr ts => (envF T ts ns).answer

theorem last_i (V : Env) : V.last.i = V.out.2.i := by
  unfold Env.last
  split
  · exact fail_i _ _ _
  · rfl
theorem last_told (V : Env) : Told V V.last := by
  obtain ⟨n, hn⟩ := read_some V .choice ⟨0, 0, 0⟩
  have h := run_told hn rfl
  unfold Env.last
  split
  · exact (told_keeps V).fail4 _ h
  · exact h
theorem out_same {V V' : Env} (h : Agree V V' V.last.i) : V'.out = V.out := by
  obtain ⟨n, hn⟩ := read_some V .choice ⟨0, 0, 0⟩
  rw [last_i] at h
  exact read_eq (run_same n _ _ _ hn h)
theorem last_same {V V' : Env} (h : Agree V V' V.last.i) : V'.last = V.last := by
  have ho := out_same h
  rw [last_i] at h
  unfold Env.last
  rw [ho]
  have h1 := h.top
  have h2 := h.length
  by_cases he : V.out.2.err = 0
  · rw [if_pos ⟨he, h2⟩, if_pos ⟨he, h1⟩, h.fail]
  · rw [if_neg (fun k => he k.1), if_neg (fun k => he k.1)]
theorem last_range (V : Env) : V.last.i ≤ V.ts.length := by
  rw [last_i]
  obtain ⟨n, hn⟩ := read_some V .choice ⟨0, 0, 0⟩
  exact (run_fine V _ _ _ _ hn).later.top (Nat.zero_le _)
/-- an error that does not stand at the end stands at a token -/
theorem last_in {V : Env} (he : V.last.err ≠ 0) (hp : V.last.place ≠ V.len) : ∃ x, V.ts[V.last.i]? = some x ∧ V.last.place = x.at_ := by
  rcases last_told V with h | ⟨_, h⟩
  · exact absurd h he
  · unfold Env.here at h
    cases hx : V.ts[V.last.i]? with
    | none =>
      rw [hx] at h
      exact absurd h hp
    | some x =>
      rw [hx] at h
      exact ⟨x, rfl, h⟩
/-- the tokens before the error: the end of the text is the first error's place, if there is one -/
theorem last_cut {V V' : Env} (hns : V'.ns = V.ns) (hts : V'.ts = V.ts.take V.last.i) : V'.last.err = 0 ∨ (V'.last.err = 4 ∧ V'.last.place = V'.len) := by
  have hl : V'.ts.length ≤ V.last.i := by
    rw [hts, List.length_take]
    omega
  rcases last_told V' with h | ⟨h, hp⟩
  · exact .inl h
  · by_cases hi : V'.last.i < V'.ts.length
    · exfalso
      have ha : Agree V' V V'.last.i := by
        refine ⟨hns.symm, fun k hk => ?_, hi⟩
        rw [hts, List.getElem?_take_of_lt (by omega)]
      have e := last_same ha
      rw [e] at hl
      omega
    · right
      refine ⟨by omega, ?_⟩
      rw [hp]
      unfold Env.here
      rw [List.getElem?_eq_none (by omega)]
      rfl
theorem Run.front {i : Nat} {l : Bytes} {ts : List Tok} {j : Nat} {r : Bytes} (h : Run i l ts j r) : ∀ k, k < ts.length → ∃ r', Run i l (ts.take k) (tkA ts k).at_ r' := by
  induction h with
  | nil i l => intro k hk; simp at hk
  | @cons i l t ts j r h hr ih =>
    intro k hk
    cases k with
    | zero => exact ⟨_, Run.nil i l⟩
    | succ k =>
      obtain ⟨r', h2⟩ := ih k (by simpa using hk)
      exact ⟨r', Run.cons h h2⟩
theorem scan_front {T : Bytes} {ts : List Tok} (h : scanB T = .inr ts) {k : Nat} (hk : k < ts.length) : scanB (T.take (tkA ts k).at_) = .inr (ts.take k) := by
  obtain ⟨h1, h2, h3⟩ := scan_run h
  obtain ⟨r, h4⟩ := h1.front k hk
  have h5 := h4.part
  rw [Nat.sub_zero] at h5
  exact run_ok h5 (by rw [List.length_take]; omega) (by rw [List.length_take]; omega)
theorem tkA_at {ts : List Tok} {k : Nat} (hk : k < ts.length) : ts[k]? = some (tkA ts k) := by
  unfold tkA
  rw [List.getD_eq_getElem?_getD, List.getElem?_eq_getElem hk]
  rfl
theorem env_at {T : Bytes} {ts : List Tok} {ns : List Bytes} {k : Nat} (hk : k < ts.length) : (envF T ts ns).ts[k]? = some (ofTok T (tkA ts k)) := by
  show (ts.map (ofTok T))[k]? = _
  rw [List.getElem?_map, tkA_at hk]
  rfl
theorem env_out {T : Bytes} {ts : List Tok} {ns : List Bytes} {k : Nat} (hk : ts.length ≤ k) : (envF T ts ns).ts[k]? = none := List.getElem?_eq_none (by simpa [envF] using hk)
theorem env_len (T : Bytes) (ts : List Tok) (ns : List Bytes) : (envF T ts ns).ts.length = ts.length := by simp [envF]
theorem ofTok_app {T m : Bytes} {t : Tok} (h : t.end_ ≤ T.length) : ofTok (T ++ m) t = ofTok T t := by
  unfold ofTok
  have e : (((T ++ m).drop t.at_).take (t.end_ - t.at_)) = (T.drop t.at_).take (t.end_ - t.at_) := by
    rcases Nat.lt_or_ge T.length t.at_ with h1 | h1
    · have : t.end_ - t.at_ = 0 := by omega
      rw [this]
      simp
    · rw [List.drop_append_of_le_length h1, List.take_append_of_le_length (by rw [List.length_drop]; omega)]
  rw [e]
theorem ofTok_take {T : Bytes} {t : Tok} {p : Nat} (h : t.end_ ≤ p) : ofTok (T.take p) t = ofTok T t := by
  unfold ofTok
  rw [List.drop_take, List.take_take, Nat.min_eq_left (by omega)]
/-- what the error's place says of a text with more behind it, and of the text before it -/
theorem parse_stops {T m : Bytes} {ns : List Bytes} {b : UInt8} {ts us : List Tok} (hs : scanB T = .inr ts) (hb : isSep b = true) (hs2 : scanB (T ++ b :: m) = .inr us)
    (hf : (parseF T ns).2.2 = 4 ∨ (parseF T ns).2.2 = 5) (hp : (parseF T ns).2.1 ≠ T.length) :
    (parseF T ns).2.1 ≤ T.length ∧ (parseF (T ++ b :: m) ns).2 = (parseF T ns).2 ∧
      ((parseF (T.take (parseF T ns).2.1) ns).2.2 = 0 ∨ (parseF (T.take (parseF T ns).2.1) ns).2.2 = 3 ∨ ((parseF (T.take (parseF T ns).2.1) ns).2.2 = 4 ∧ (parseF (T.take (parseF T ns).2.1) ns).2.1 = (parseF T ns).2.1)) ∧
      (envF (T ++ b :: m) us ns).out = (envF T ts ns).out := by
  by_cases hg : goodF ns = false
  · unfold parseF at hf
    rw [if_pos hg] at hf
    simp at hf
  obtain ⟨V, hV⟩ : ∃ V, V = envF T ts ns := ⟨_, rfl⟩
  have e : parseF T ns = V.answer := by
    unfold parseF
    rw [if_neg hg, hs, hV]
  rw [e] at hf hp ⊢
  have hle : V.last.err ≠ 0 := by
    intro h0
    unfold Env.answer at hf
    rw [if_neg (by simpa using h0)] at hf
    split at hf <;> simp at hf
  have ea : V.answer = ([], V.last.place, V.last.err) := by
    unfold Env.answer
    rw [if_pos hle]
  rw [ea] at hf hp ⊢
  dsimp only at hf hp ⊢
  have hlen : V.len = T.length := by rw [hV]; rfl
  obtain ⟨x, hx, hpl⟩ := last_in hle (by rw [hlen]; exact hp)
  have hi : V.last.i < ts.length := by
    rcases Nat.lt_or_ge V.last.i ts.length with h1 | h1
    · exact h1
    · rw [hV] at hx h1
      rw [env_out h1] at hx
      cases hx
  obtain ⟨i, hi2⟩ : ∃ i, i = V.last.i := ⟨_, rfl⟩
  rw [← hi2] at hx hi
  have hxe : x = ofTok T (tkA ts i) := by
    rw [hV, env_at hi] at hx
    exact (Option.some.inj hx).symm
  have hpa : V.last.place = (tkA ts i).at_ := by rw [hpl, hxe]; rfl
  have hst := stands hs hi
  obtain ⟨zs, hz⟩ : ∃ zs, us = ts ++ zs := by
    have h3 := (scan_run hs2).2.2
    rcases scan_more_ok hs hb h3 with ⟨y, hy⟩ | ⟨zs, hy⟩
    · rw [hs2] at hy; cases hy
    · rw [hs2] at hy
      exact ⟨zs, Sum.inr.inj hy⟩
  have e2 : parseF (T ++ b :: m) ns = (envF (T ++ b :: m) us ns).answer := by
    unfold parseF
    rw [if_neg hg, hs2]
  have ha : Agree V (envF (T ++ b :: m) us ns) V.last.i := by
    refine ⟨by rw [hV]; rfl, fun k hk => ?_, by rw [hV, env_len, ← hV, ← hi2]; exact hi⟩
    have hk2 : k < ts.length := by omega
    have hk3 : k < us.length := by rw [hz, List.length_append]; omega
    rw [hV, env_at hk2, env_at hk3]
    have e3 : tkA us k = tkA ts k := by
      have h1 := tkA_at hk3
      rw [hz, List.getElem?_append_left hk2, tkA_at hk2] at h1
      rw [hz]
      exact (Option.some.inj h1).symm
    rw [e3, ofTok_app (stands hs hk2).le]
  refine ⟨by have := hst.lt; have := hst.le; omega, ?_, ?_, by rw [out_same ha, hV]⟩
  · rw [e2]
    unfold Env.answer
    rw [last_same ha, if_pos hle]
  · rw [hpa]
    have hsc := scan_front hs hi
    obtain ⟨p, hpe⟩ : ∃ p, p = (tkA ts i).at_ := ⟨_, rfl⟩
    rw [← hpe] at hsc ⊢
    have e2 : parseF (T.take p) ns = (envF (T.take p) (ts.take i) ns).answer := by
      unfold parseF
      rw [if_neg hg, hsc]
    obtain ⟨V', hV'⟩ : ∃ V', V' = envF (T.take p) (ts.take i) ns := ⟨_, rfl⟩
    rw [e2, ← hV']
    have hts : V'.ts = V.ts.take V.last.i := by
      rw [← hi2, hV, hV']
      show (ts.take i).map (ofTok (T.take p)) = (ts.map (ofTok T)).take i
      rw [← List.map_take]
      apply List.map_congr_left
      intro t ht
      obtain ⟨k, hk, rfl⟩ := List.mem_iff_getElem.1 ht
      have h1 := (stands hsc hk).le
      have h2 := tkA_at hk
      rw [List.getElem?_eq_getElem hk] at h2
      rw [← Option.some.inj h2] at h1
      rw [List.length_take] at h1
      exact ofTok_take (by omega)
    have hlen2 : V'.len = p := by
      rw [hV']
      show (T.take p).length = p
      have := hst.lt
      have := hst.le
      rw [List.length_take]
      omega
    have hc := last_cut (V := V) (V' := V') (by rw [hV, hV']; rfl) hts
    unfold Env.answer
    rcases hc with h0 | ⟨h4, h5⟩
    · rw [if_neg (by simpa using h0)]
      split
      · exact .inr (.inl rfl)
      · exact .inl rfl
    · rw [if_pos (by omega), h4, h5, hlen2]
      exact .inr (.inr ⟨rfl, rfl⟩)
end Go.Proofs.YtdbahiepihkagaaGreatDoor
namespace Go.Proofs.YtdbahiepihkagaaGreatDoor
set_option maxRecDepth 100000

/-- a word may stand before a byte -/
def joint (w : Bytes) (b : UInt8) : Bool := match w with
  | [] => false
  | x :: r => if isLet x || isDgt x then !isIn b else !twos.contains ((x :: r).take 1 ++ [b])  || decide (r ≠ [])
theorem dgt_in {b : UInt8} (h : isIn b = false) : isDgt b = false := by
  unfold isIn at h
  cases hd : isDgt b with
  | false => rfl
  | true => rw [hd] at h; simp at h
theorem tok_joint {w m : Bytes} {b : UInt8} {t : Tk} (h : tokF w = .inr t) (hl : t.len = w.length) (hj : joint w b = true) : tokF (w ++ b :: m) = .inr t := by
  cases w with
  | nil => cases h
  | cons x r =>
    unfold joint at hj
    dsimp only at hj
    unfold tokF at h
    dsimp only at h
    rw [List.cons_append]
    unfold tokF
    dsimp only
    rw [← List.cons_append]
    by_cases hx : isLet x = true
    · rw [if_pos hx] at h ⊢
      rw [hx, Bool.true_or, if_pos rfl] at hj
      rw [run_app isIn (by simpa using hj)]
      exact h
    · rw [if_neg hx] at h ⊢
      by_cases hd : isDgt x = true
      · rw [if_pos hd] at h ⊢
        rw [hd, Bool.or_true, if_pos rfl] at hj
        rw [run_app isDgt (dgt_in (by simpa using hj)), List.take_append_of_le_length (run_le _ _)]
        exact h
      · rw [if_neg hd] at h ⊢
        rw [if_neg (by simp [hx, hd])] at hj
        have key : signF ((x :: r) ++ b :: m) = signF (x :: r) := by
          rw [List.cons_append, sign_cons, sign_cons]
          cases r with
          | nil =>
            have hj2 : twos.contains [x, b] = false := by simpa using hj
            have e : (x :: ([] ++ b :: m)).take 2 = [x, b] := rfl
            have e2 : ([x] : Bytes).take 2 = [x] := rfl
            rw [e, hj2, e2, two_one]
          | cons y r => rfl
        rw [key]
        exact h

/-- words, and the gap behind each -/
abbrev Pcs := List (Bytes × Bytes)
def textP : Pcs → Bytes
  | [] => []
  | x :: P => x.1 ++ (x.2 ++ textP P)
def headP : Pcs → Option UInt8 → Option UInt8
  | [], nx => nx
  | x :: _, _ => x.1.head?
def okP : Pcs → Option UInt8 → Prop
  | [], _ => True
  | x :: P, nx => ((∃ t, tokF x.1 = .inr t ∧ t.len = x.1.length) ∧ Closed x.2 ∧ (x.2 = [] ∨ ∃ b r, x.2 = b :: r ∧ isSep b = true) ∧ (x.2 = [] → ∀ b, headP P nx = some b → joint x.1 b = true)) ∧ okP P nx
theorem textP_app : ∀ (P Q : Pcs), textP (P ++ Q) = textP P ++ textP Q
  | [], Q => rfl
  | x :: P, Q => by
    show x.1 ++ (x.2 ++ textP (P ++ Q)) = (x.1 ++ (x.2 ++ textP P)) ++ textP Q
    rw [textP_app P Q]
    simp
theorem headP_app : ∀ (P Q : Pcs) (nx : Option UInt8), headP (P ++ Q) nx = headP P (headP Q nx)
  | [], _, _ => rfl
  | _ :: _, _, _ => rfl
theorem okP_app : ∀ {P Q : Pcs} {nx : Option UInt8}, okP P (headP Q nx) → okP Q nx → okP (P ++ Q) nx
  | [], Q, nx, _, h => h
  | x :: P, Q, nx, h, k => by
    obtain ⟨⟨h1, h2, h3, h4⟩, h5⟩ := h
    exact ⟨⟨h1, h2, h3, fun e b hb => h4 e b (by rw [← headP_app]; exact hb)⟩, okP_app h5 k⟩
/-- where the tokens stand -/
def layP (i : Nat) : Pcs → List Tok
  | [] => []
  | x :: P => ⟨kindW x.1, i, i + x.1.length, numW x.1⟩ :: layP (i + x.1.length + x.2.length) P
theorem headP_text : ∀ (P : Pcs), (∀ x ∈ P, x.1 ≠ []) → (textP P).head? = headP P none
  | [], _ => rfl
  | x :: P, h => by
    have := h x (by simp)
    obtain ⟨w, g⟩ := x
    cases w with
    | nil => exact absurd rfl this
    | cons b r => rfl
theorem okP_word : ∀ {P : Pcs} {nx : Option UInt8}, okP P nx → ∀ x ∈ P, ∃ t, tokF x.1 = .inr t ∧ t.len = x.1.length
  | [], _, _, x, hx => by simp at hx
  | y :: P, nx, h, x, hx => by
    rcases List.mem_cons.1 hx with rfl | hx
    · exact h.1.1
    · exact okP_word h.2 x hx
theorem tok_pos {w : Bytes} {t : Tk} (h : tokF w = .inr t) : w ≠ [] := by rintro rfl; cases h
theorem run_lay : ∀ (P : Pcs), okP P none → ∀ (i : Nat) (g : Bytes), Closed g → Run i (g ++ textP P) (layP (i + g.length) P) (i + g.length + (textP P).length) []
  | [], _, i, g, hg => by
    have h := Run.nil i (g ++ textP [])
    have e : gapF false (g ++ textP []) = g.length := by rw [hg]; simp [textP, gapF]
    rw [e] at h
    simp [textP] at h ⊢
    exact h
  | x :: P, hP, i, g, hg => by
    obtain ⟨⟨⟨t, h1, h2⟩, h3, h4, h5⟩, h6⟩ := hP
    have hlen := tok_len h1
    obtain ⟨y, tr, e1, e2, e3⟩ := tok_head h1
    have hgap : gapF false (g ++ textP (x :: P)) = g.length := by
      rw [hg]
      show g.length + gapF false (x.1 ++ (x.2 ++ textP P)) = g.length
      rw [e1, List.cons_append, gap_none e2 e3]
      rfl
    have hne : x.1 ≠ [] := tok_pos h1
    have htok0 : tokF (x.1 ++ (x.2 ++ textP P)) = .inr t := by
      rcases h4 with h4 | ⟨b, r, h4, hb⟩
      · rw [h4, List.nil_append]
        have hh := headP_text P (fun z hz => by
          obtain ⟨t', ht, _⟩ := okP_word h6 z hz
          exact tok_pos ht)
        cases htp : textP P with
        | nil => rw [List.append_nil]; exact h1
        | cons b m =>
          rw [htp] at hh
          exact tok_joint h1 h2 (h5 h4 b hh.symm)
      · rw [h4, List.cons_append, tok_app hne hb]
        exact h1
    have htok : tokF ((g ++ textP (x :: P)).drop (gapF false (g ++ textP (x :: P)))) = .inr t := by
      rw [hgap, List.drop_left]
      exact htok0
    have ih := run_lay P h6 (i + g.length + x.1.length) x.2 h3
    have hrest : (g ++ textP (x :: P)).drop (gapF false (g ++ textP (x :: P)) + t.len) = x.2 ++ textP P := by
      rw [hgap, h2, ← List.drop_drop, List.drop_left]
      show (x.1 ++ (x.2 ++ textP P)).drop x.1.length = _
      rw [List.drop_left]
    have h := Run.cons (i := i) htok (ts := layP (i + g.length + x.1.length + x.2.length) P) (j := i + g.length + x.1.length + x.2.length + (textP P).length) (r := []) (by
      rw [hrest, hgap, h2]
      exact ih)
    rw [hgap] at h
    have e : i + g.length + (textP (x :: P)).length = i + g.length + x.1.length + x.2.length + (textP P).length := by
      show _ + (x.1 ++ (x.2 ++ textP P)).length = _
      simp
      omega
    have et : tokOf (i + g.length) t = ⟨kindW x.1, i + g.length, i + g.length + x.1.length, numW x.1⟩ := by
      unfold tokOf kindW numW
      rw [h1, h2]
    rw [et] at h
    rw [e]
    exact h
theorem layP_len : ∀ (P : Pcs) (i : Nat), (layP i P).length = P.length
  | [], _ => rfl
  | x :: P, i => by
    show (layP _ P).length + 1 = P.length + 1
    rw [layP_len P]
theorem scan_lay {P : Pcs} (h : okP P none) (h4 : P.length ≤ 4096) (hl : (textP P).length ≤ 16384) : scanB (textP P) = .inr (layP 0 P) := by
  have h1 := run_lay P h 0 [] closed_nil
  rw [List.nil_append] at h1
  exact run_ok h1 (by rw [layP_len]; exact h4) hl
theorem lay_words {L : Bytes} : ∀ (P : Pcs) (i : Nat), L.drop i = textP P → (layP i P).map (fun t => (ofTok L t).word) = P.map Prod.fst
  | [], _, _ => rfl
  | x :: P, i, h => by
    show ((L.drop i).take (i + x.1.length - i)) :: (layP (i + x.1.length + x.2.length) P).map (fun t => (ofTok L t).word) = x.1 :: P.map Prod.fst
    rw [lay_words P]
    · rw [h, Nat.add_sub_cancel_left]
      show (x.1 ++ (x.2 ++ textP P)).take x.1.length :: _ = _
      rw [List.take_left]
    · rw [← List.drop_drop, ← List.drop_drop, h]
      show ((x.1 ++ (x.2 ++ textP P)).drop x.1.length).drop x.2.length = _
      rw [List.drop_left, List.drop_left]
theorem lay_kinds : ∀ (P : Pcs) (i : Nat) (t : Tok), t ∈ layP i P → ∃ w g, (w, g) ∈ P ∧ t.kind = kindW w ∧ t.num = numW w ∧ t.end_ = t.at_ + w.length
  | [], _, t, h => by simp [layP] at h
  | x :: P, i, t, h => by
    rcases List.mem_cons.1 h with rfl | h
    · exact ⟨x.1, x.2, by simp, rfl, rfl, rfl⟩
    · obtain ⟨w, g, h1, h2⟩ := lay_kinds P _ t h
      exact ⟨w, g, by simp [h1], h2⟩
/-- the words of a scanned text are fair -/
theorem env_fair {T : Bytes} {ts : List Tok} {ns : List Bytes} (h : scanB T = .inr ts) : (envF T ts ns).Fair := by
  intro x hx
  unfold envF at hx
  simp only [List.mem_map] at hx
  obtain ⟨t, ht, rfl⟩ := hx
  obtain ⟨k, hk, rfl⟩ := List.mem_iff_getElem.1 ht
  have h1 := stands h hk
  have h2 := tkA_at hk
  rw [List.getElem?_eq_getElem hk] at h2
  rw [Option.some.inj h2]
  have h3 := tok_take h1.tok (Nat.le_refl _)
  unfold ofTok kindW numW
  dsimp only at h3 ⊢
  rw [h3]
  exact ⟨rfl, rfl⟩
/-- a text whose words spell a valid expression is read as it -/
theorem parse_text {P : Pcs} {ns : List Bytes} {e : List (Int × Int)} (hg : goodF ns = true) (h : okP P none) (h4 : P.length ≤ 4096) (hl : (textP P).length ≤ 16384) (hs : Spell ns 1 (P.map Prod.fst) e) (hv : validE e ns.length = true) : parseF (textP P) ns = (e, 0, 0) := by
  have hsc := scan_lay h h4 hl
  obtain ⟨V, hV⟩ : ∃ V, V = envF (textP P) (layP 0 P) ns := ⟨_, rfl⟩
  have hw : V.words = P.map Prod.fst := by
    rw [hV, ← lay_words (L := textP P) P 0 rfl]
    unfold Env.words envF
    rw [List.map_map]
    rfl
  have hns : V.ns = ns := by rw [hV]; rfl
  have hF : V.Fair := by rw [hV]; exact env_fair hsc
  have hn : V.ts.length = P.length := by rw [hV, env_len, layP_len]
  have ho : V.out = (e, ⟨(P.map Prod.fst).length, 0, 0⟩) := spell_out hF (by rw [hns]; exact hs) hw
  have hlast : V.last = ⟨(P.map Prod.fst).length, 0, 0⟩ := by
    unfold Env.last
    rw [ho, if_neg]
    rintro ⟨_, h⟩
    rw [hn] at h
    simp at h
  unfold parseF
  rw [if_neg (by rw [hg]; decide), hsc]
  dsimp only
  rw [← hV]
  unfold Env.answer
  rw [hlast, if_neg (by simp), ho, hns, if_neg (by dsimp only; rw [hv]; decide)]
end Go.Proofs.YtdbahiepihkagaaGreatDoor
namespace Go.Proofs.YtdbahiepihkagaaGreatDoor
set_option maxRecDepth 100000

/-! ### Trees -/
inductive Ex where
  | leaf (t : Int × Int)
  | un (t : Int × Int) (a : Ex)
  | bi (t : Int × Int) (a b : Ex)
  | cond (t : Int × Int) (c a b : Ex)
def Ex.flat : Ex → List (Int × Int)
  | .leaf t => [t]
  | .un t a => t :: a.flat
  | .bi t a b => t :: (a.flat ++ b.flat)
  | .cond t c a b => t :: (c.flat ++ (a.flat ++ b.flat))
def Ex.top : Ex → Int × Int
  | .leaf t => t
  | .un t _ => t
  | .bi t _ _ => t
  | .cond t _ _ _ => t
/-- each operation has as many operands as it wants -/
def Ex.wf : Ex → Prop
  | .leaf t => arF t.1 = 0
  | .un t a => arF t.1 = 1 ∧ a.wf
  | .bi t a b => arF t.1 = 2 ∧ a.wf ∧ b.wf
  | .cond t c a b => arF t.1 = 3 ∧ c.wf ∧ a.wf ∧ b.wf
def flats (L : List Ex) : List (Int × Int) := (L.map Ex.flat).flatten
theorem exs_trees {w : Nat} {a : List (Int × Int)} {d n : Nat} (h : Exs w a d n) : ∃ L : List Ex, L.length = w ∧ flats L = a ∧ ∀ x ∈ L, x.wf := by
  induction h with
  | nil => exact ⟨[], rfl, rfl, by simp⟩
  | @cons t k j d n d' n' b c ha hb hc ih1 ih2 =>
    obtain ⟨L1, l1, f1, w1⟩ := ih1
    obtain ⟨L2, l2, f2, w2⟩ := ih2
    have key : ∃ x : Ex, x.flat = t :: b ∧ x.wf := by
      have h3 := (arF_le t.1).2
      match L1, l1, f1, w1 with
      | [], l1, f1, _ =>
        refine ⟨.leaf t, ?_, ?_⟩
        · rw [← f1]; rfl
        · show arF t.1 = 0
          simp at l1
          omega
      | [x], l1, f1, w1 =>
        refine ⟨.un t x, ?_, ?_, w1 x (by simp)⟩
        · rw [← f1]
          simp [Ex.flat, flats]
        · simp at l1
          omega
      | [x, y], l1, f1, w1 =>
        refine ⟨.bi t x y, ?_, ?_, w1 x (by simp), w1 y (by simp)⟩
        · rw [← f1]
          simp [Ex.flat, flats]
        · simp at l1
          omega
      | [x, y, z], l1, f1, w1 =>
        refine ⟨.cond t x y z, ?_, ?_, w1 x (by simp), w1 y (by simp), w1 z (by simp)⟩
        · rw [← f1]
          simp [Ex.flat, flats]
        · simp at l1
          omega
      | x :: y :: z :: u :: R, l1, _, _ =>
        simp at l1
        omega
    obtain ⟨x, hx, hw⟩ := key
    refine ⟨x :: L2, by simp [l2], ?_, ?_⟩
    · show x.flat ++ flats L2 = t :: (b ++ c)
      rw [hx, f2]
      rfl
    · intro y hy
      rcases List.mem_cons.1 hy with rfl | hy
      · exact hw
      · exact w2 y hy
/-- one expression is a tree -/
theorem one_tree {xs : List (Int × Int)} (h : oneB xs = true) : ∃ x : Ex, x.flat = xs ∧ x.wf := by
  obtain ⟨L, l, f, w⟩ := exs_trees (one_exs (oneB_iff.1 h))
  match L, l, f, w with
  | [x], _, f, w => exact ⟨x, by rw [← f]; simp [flats], w x (by simp)⟩

/-! ### Words of operations, numbers, names -/
def wordL : List Bytes := [[], [], [116, 114, 117, 101], [102, 97, 108, 115, 101], [110, 111, 110, 101], [], [110], [105, 100, 115], [105, 100], [100, 101, 103], [114, 111, 111, 116], [113], [], [113, 46, 105, 100], [113, 46, 100, 101, 103], [113, 46, 114, 111, 111, 116], [113, 46, 119, 101, 105, 103, 104, 116], [113, 46, 98, 97, 99, 107], [45], [33], [97, 108, 108], [115, 111, 109, 101], [99, 111, 117, 110, 116], [102, 105, 114, 115, 116], [109, 105, 110], [109, 97, 120], [115, 117, 109], [109, 101, 120], [115, 101, 99, 111, 110, 100], [104, 101, 97, 100], [42], [47], [37], [43], [45], [61, 61], [33, 61], [60], [60, 61], [62], [62, 61], [38, 38], [124, 124], []]
def wordF (op : Int) : Bytes := wordL.getD op.toNat []
/-- the level of an operation -/
def lvF (op : Int) : Nat := if op = 43 then 1 else if op = 42 then 2 else if op = 41 then 3 else if 35 ≤ op ∧ op ≤ 40 then 4 else if op = 33 ∨ op = 34 then 5 else if 30 ≤ op ∧ op ≤ 32 then 6 else if op = 18 ∨ op = 19 then 7 else 8
def digit (d : Nat) : UInt8 := UInt8.ofNat (48 + d)
theorem digit_nat {d : Nat} (h : d < 10) : (digit d).toNat = 48 + d := by
  unfold digit
  rw [UInt8.toNat_ofNat']
  omega
def decB (n : Nat) : Bytes := if n < 10 then [digit n] else decB (n / 10) ++ [digit (n % 10)]
theorem dec_small {n : Nat} (h : n < 10) : decB n = [digit n] := by unfold decB; rw [if_pos h]
theorem dec_big {n : Nat} (h : 10 ≤ n) : decB n = decB (n / 10) ++ [digit (n % 10)] := by rw [decB, if_neg (by omega)]
theorem digit_dgt {d : Nat} (h : d < 10) : isDgt (digit d) = true := by
  unfold isDgt
  rw [digit_nat h]
  simp
  omega
theorem run_full {p : UInt8 → Bool} : ∀ {l : Bytes}, (∀ b ∈ l, p b = true) → runF p l = l.length
  | [], _ => rfl
  | x :: l, h => by
    unfold runF
    rw [if_pos (h x (by simp)), run_full (fun b hb => h b (by simp [hb]))]
    rfl
theorem dec_facts (n : Nat) : (∀ b ∈ decB n, isDgt b = true) ∧ valF (decB n) = n ∧ (∃ b l, decB n = b :: l ∧ (l = [] ∨ b ≠ 48) ∧ (0 < n → b ≠ 48)) := by
  induction n using Nat.strongRecOn with
  | ind n ih =>
    by_cases h : n < 10
    · rw [dec_small h]
      refine ⟨fun b hb => ?_, ?_, digit n, [], rfl, .inl rfl, fun h0 e => ?_⟩
      · simp at hb
        rw [hb]
        exact digit_dgt h
      · show 10 * 0 + ((digit n).toNat - 48) = n
        rw [digit_nat h]
        omega
      · have := congrArg UInt8.toNat e
        rw [digit_nat h] at this
        simp at this
        omega
    · obtain ⟨h1, h2, b, l, h3, h4, h5⟩ := ih (n / 10) (by omega)
      rw [dec_big (by omega)]
      refine ⟨fun b hb => ?_, ?_, b, l ++ [digit (n % 10)], by rw [h3]; rfl, .inr (h5 (by omega)), fun _ => h5 (by omega)⟩
      · rcases List.mem_append.1 hb with hb | hb
        · exact h1 b hb
        · simp at hb
          rw [hb]
          exact digit_dgt (by omega)
      · rw [val_snoc, h2, digit_nat (by omega)]
        omega
theorem dec_tok {n : Nat} (h : n ≤ 1073741824) : tokF (decB n) = .inr ⟨2, (decB n).length, n⟩ := by
  obtain ⟨h1, h2, b, l, h3, h4, h5⟩ := dec_facts n
  have hr := run_full h1
  rw [h3] at h1 h2 hr ⊢
  have hb := h1 b (by simp)
  have hl : isLet b = false := by
    unfold isDgt at hb
    unfold isLet
    simp at hb ⊢
    omega
  unfold tokF
  dsimp only
  rw [hl, if_neg (by decide), if_pos hb, hr, List.take_length, h2, if_neg]
  rw [Bool.not_eq_true, Bool.or_eq_false_iff]
  refine ⟨?_, by simp; omega⟩
  rcases h4 with rfl | h4
  · simp
  · simp [h4]
theorem look_mem {T : List (Bytes × Int)} {l : Bytes} (h : lookW T l ≠ 0) : ∃ x ∈ T, x.1 = l := by
  unfold lookW at h
  cases hf : T.find? fun x => x.1 == l with
  | none => rw [hf] at h; exact absurd rfl h
  | some x => exact ⟨x, List.mem_of_find?_eq_some hf, by simpa using List.find?_some hf⟩
theorem look_free {T : List (Bytes × Int)} (hT : T.all (fun x => wordsL.contains x.1) = true) {l : Bytes} (h : resF l = false) : lookW T l = 0 := by
  rcases Classical.em (lookW T l = 0) with h0 | h0
  · exact h0
  · obtain ⟨x, hx, rfl⟩ := look_mem h0
    rw [List.all_eq_true] at hT
    have := hT x hx
    unfold resF at h
    rw [h] at this
    cases this
/-- what a name is as a word -/
structure NameW (w : Bytes) : Prop where
  tok : tokF w = .inr ⟨1, w.length, 0⟩
  fact : factF w = 0
  agg : aggW w = 0
  field : fieldF w = 0
  q : w ≠ [113]
  br : w ≠ [40]
  head : ∃ b l, w = b :: l ∧ isLet b = true
  len : w.length ≤ 24
theorem name_word {w : Bytes} (h : nameF w = true) : NameW w := by
  cases w with
  | nil => cases h
  | cons x r =>
    unfold nameF at h
    simp only [Bool.and_eq_true, decide_eq_true_eq, Bool.not_eq_true'] at h
    obtain ⟨⟨⟨h1, h2⟩, h3⟩, h4⟩ := h
    refine ⟨?_, look_free (by decide) h4, look_free (by decide) h4, look_free (by decide) h4, ?_, ?_, ⟨x, r, rfl, h2⟩, h1⟩
    · unfold tokF
      dsimp only
      rw [if_pos h2, h3, if_neg (by omega)]
    · intro e
      rw [e] at h4
      revert h4
      decide
    · intro e
      injection e with e1 e2
      subst e1
      revert h2
      decide
theorem NameW.kind {w : Bytes} (h : NameW w) : kindW w ≠ 2 := by
  unfold kindW
  rw [h.tok]
  show (1 : Nat) ≠ 2
  decide
theorem idx_app {a r : List Bytes} {x : Bytes} (h : idxN a x = none) : idxN (a ++ x :: r) x = some a.length := by
  induction a with
  | nil => simp [idxN]
  | cons y a ih =>
    rw [List.cons_append]
    unfold idxN at h ⊢
    split at h
    · cases h
    · rename_i hy
      rw [if_neg hy]
      cases hk : idxN a x with
      | some k => rw [hk] at h; cases h
      | none => rw [ih hk]; rfl
theorem goodN_at : ∀ {l done : List Bytes}, goodN done l = true → ∀ i (h : i < l.length), nameF l[i] = true ∧ idxN (done ++ l.take i) l[i] = none
  | [], _, _, i, h => by simp at h
  | x :: r, done, h, i, hi => by
    unfold goodN at h
    simp only [Bool.and_eq_true, decide_eq_true_eq] at h
    obtain ⟨⟨h1, h2⟩, h3⟩ := h
    cases i with
    | zero =>
      refine ⟨h1, ?_⟩
      show idxN (done ++ []) x = none
      rw [List.append_nil]
      unfold idxI at h2
      cases hk : idxN done x with
      | none => rfl
      | some k => rw [hk] at h2; dsimp only at h2; omega
    | succ i =>
      have := goodN_at h3 i (by simpa using hi)
      simpa using this
theorem good_at {ns : List Bytes} (h : goodF ns = true) {i : Nat} (hi : i < ns.length) : nameF (ns.getD i []) = true ∧ idxN ns (ns.getD i []) = some i := by
  unfold goodF at h
  simp only [Bool.and_eq_true, decide_eq_true_eq] at h
  obtain ⟨h1, h2⟩ := goodN_at h.2 i hi
  have e : ns.getD i [] = ns[i] := by rw [List.getD_eq_getElem?_getD, List.getElem?_eq_getElem hi]; rfl
  rw [e]
  refine ⟨h1, ?_⟩
  rw [List.nil_append] at h2
  have h3 := idx_app (r := ns.drop (i + 1)) h2
  rw [← List.drop_eq_getElem_cons hi, List.take_append_drop, List.length_take, Nat.min_eq_left (by omega)] at h3
  exact h3
end Go.Proofs.YtdbahiepihkagaaGreatDoor
