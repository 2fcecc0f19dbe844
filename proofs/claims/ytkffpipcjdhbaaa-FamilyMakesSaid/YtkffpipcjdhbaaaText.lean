/- Graphs as text, over lists of bytes: numbers, words, lines, and reading back. No program in sight. -/
import Derived.Test.YtkffpipcjdhbaaaMath1
namespace Go.Proofs.Ytkffpipcjdhbaaa

abbrev Bytes := List UInt8

/-! ### Cutting at a byte -/
def splitB (c : UInt8) : Bytes → List Bytes
  | [] => [[]]
  | x :: l => if x = c then [] :: splitB c l else match splitB c l with
    | [] => [[x]]
    | w :: ws => (x :: w) :: ws
def preHead (p : Bytes) : List Bytes → List Bytes
  | [] => [p]
  | w :: ws => (p ++ w) :: ws
def joinB (c : UInt8) : List Bytes → Bytes
  | [] => []
  | [w] => w
  | w :: v :: ws => w ++ c :: joinB c (v :: ws)

theorem split_ne (c : UInt8) (l : Bytes) : splitB c l ≠ [] := by
  cases l with
  | nil => simp [splitB]
  | cons x l =>
    unfold splitB
    split
    · simp
    · split <;> simp
theorem split_cons (c : UInt8) (l : Bytes) : ∃ w ws, splitB c l = w :: ws := by
  cases h : splitB c l with
  | nil => exact absurd h (split_ne c l)
  | cons w ws => exact ⟨w, ws, rfl⟩
theorem split_at (c : UInt8) (l : Bytes) : splitB c (c :: l) = [] :: splitB c l := by simp [splitB]
theorem split_other {c x : UInt8} (h : x ≠ c) (l : Bytes) : splitB c (x :: l) = preHead [x] (splitB c l) := by
  obtain ⟨w, ws, e⟩ := split_cons c l
  simp [splitB, h, e, preHead]
theorem split_free {c : UInt8} : ∀ {p : Bytes}, c ∉ p → ∀ l, splitB c (p ++ l) = preHead p (splitB c l)
  | [], _, l => by
    obtain ⟨w, ws, e⟩ := split_cons c l
    simp [preHead, e]
  | x :: p, h, l => by
    have hx : x ≠ c := fun e => h (by simp [e])
    have hp : c ∉ p := fun e => h (by simp [e])
    obtain ⟨w, ws, e⟩ := split_cons c l
    rw [List.cons_append, split_other hx, split_free hp, e]
    simp [preHead]
theorem split_word {c : UInt8} {p : Bytes} (h : c ∉ p) : splitB c p = [p] := by
  have := split_free h []
  simpa [splitB, preHead] using this
theorem split_word_at {c : UInt8} {p : Bytes} (h : c ∉ p) (l : Bytes) : splitB c (p ++ c :: l) = p :: splitB c l := by
  rw [split_free h, split_at]
  simp [preHead]
theorem split_no {c : UInt8} : ∀ {l : Bytes} {w : Bytes}, w ∈ splitB c l → c ∉ w
  | [], w, h => by
    simp [splitB] at h
    rw [h]
    simp
  | x :: l, w, h => by
    by_cases hx : x = c
    · rw [hx, split_at] at h
      rcases List.mem_cons.1 h with rfl | h
      · simp
      · exact split_no h
    · rw [split_other hx] at h
      obtain ⟨v, vs, e⟩ := split_cons c l
      rw [e] at h
      simp [preHead] at h
      rcases h with rfl | h
      · have := split_no (c := c) (l := l) (w := v) (by rw [e]; simp)
        simp [this]
        exact fun e => hx e.symm
      · exact split_no (l := l) (by rw [e]; simp [h])
theorem join_split (c : UInt8) : ∀ l : Bytes, joinB c (splitB c l) = l
  | [] => rfl
  | x :: l => by
    have ih := join_split c l
    obtain ⟨w, ws, e⟩ := split_cons c l
    by_cases hx : x = c
    · rw [hx, split_at, e, joinB, ← e, ih]
      rfl
    · rw [split_other hx, e]
      rw [e] at ih
      cases ws with
      | nil =>
        simp only [preHead, joinB] at ih ⊢
        rw [ih]
        rfl
      | cons v vs =>
        simp only [preHead, joinB] at ih ⊢
        rw [← ih]
        rfl
theorem split_join {c : UInt8} : ∀ {ws : List Bytes}, ws ≠ [] → (∀ w ∈ ws, c ∉ w) → splitB c (joinB c ws) = ws
  | [], h, _ => absurd rfl h
  | [w], _, h => by rw [joinB]; exact split_word (h w (by simp))
  | w :: v :: ws, _, h => by
    rw [joinB, split_word_at (h w (by simp)), split_join (ws := v :: ws) (by simp) (fun x hx => h x (by simp [hx]))]

/-! ### Numbers -/
def isDig (b : UInt8) : Prop := 48 ≤ b.toNat ∧ b.toNat ≤ 57
instance (b : UInt8) : Decidable (isDig b) := inferInstanceAs (Decidable (_ ∧ _))
def digit (d : Nat) : UInt8 := UInt8.ofNat (48 + d)
theorem digit_nat {d : Nat} (h : d < 10) : (digit d).toNat = 48 + d := by
  unfold digit
  rw [UInt8.toNat_ofNat']
  omega
theorem digit_is {d : Nat} (h : d < 10) : isDig (digit d) := by unfold isDig; rw [digit_nat h]; omega
theorem digit_of {b : UInt8} (h : isDig b) : digit (b.toNat - 48) = b := by
  obtain ⟨h1, h2⟩ := h
  apply UInt8.toNat_inj.1
  rw [digit_nat (by omega)]
  omega
def valB (l : Bytes) : Nat := l.foldl (fun v b => 10 * v + (b.toNat - 48)) 0
theorem val_snoc (l : Bytes) (b : UInt8) : valB (l ++ [b]) = 10 * valB l + (b.toNat - 48) := by simp [valB]
/-- the form of a number: 1 to 6 digits, no leading zero -/
def NumOk (l : Bytes) : Prop := 1 ≤ l.length ∧ l.length ≤ 6 ∧ (1 < l.length → l.head? ≠ some 48) ∧ ∀ b ∈ l, isDig b
open Classical in
noncomputable def numB (l : Bytes) : Option Nat := if NumOk l then some (valB l) else none
theorem numB_some {l : Bytes} {n : Nat} (h : numB l = some n) : NumOk l ∧ valB l = n := by
  unfold numB at h
  split at h
  · rename_i h1
    exact ⟨h1, by simpa using h⟩
  · cases h
theorem numB_mk {l : Bytes} (h : NumOk l) : numB l = some (valB l) := by unfold numB; rw [if_pos h]
theorem numB_none {l : Bytes} (h : ¬ NumOk l) : numB l = none := by unfold numB; rw [if_neg h]

def decB (n : Nat) : Bytes := if n < 10 then [digit n] else decB (n / 10) ++ [digit (n % 10)]
termination_by n
theorem dec_small {n : Nat} (h : n < 10) : decB n = [digit n] := by unfold decB; rw [if_pos h]
theorem dec_big {n : Nat} (h : 10 ≤ n) : decB n = decB (n / 10) ++ [digit (n % 10)] := by rw [decB, if_neg (by omega)]
theorem dec_ne (n : Nat) : decB n ≠ [] := by
  by_cases h : n < 10
  · rw [dec_small h]; simp
  · rw [dec_big (by omega)]; simp
theorem dec_dig : ∀ (n : Nat), ∀ b ∈ decB n, isDig b := by
  intro n
  induction n using Nat.strongRecOn with
  | ind n ih =>
    intro b hb
    by_cases h : n < 10
    · rw [dec_small h, List.mem_singleton] at hb
      rw [hb]; exact digit_is h
    · rw [dec_big (by omega)] at hb
      rcases List.mem_append.1 hb with hb | hb
      · exact ih (n / 10) (by omega) b hb
      · rw [List.mem_singleton] at hb
        rw [hb]; exact digit_is (by omega)
theorem dec_val : ∀ (n : Nat), valB (decB n) = n := by
  intro n
  induction n using Nat.strongRecOn with
  | ind n ih =>
    by_cases h : n < 10
    · rw [dec_small h]
      simp [valB, digit_nat h]
    · rw [dec_big (by omega), val_snoc, ih (n / 10) (by omega), digit_nat (by omega)]
      omega
theorem dec_len : ∀ (k n : Nat), n < 10 ^ (k + 1) → (decB n).length ≤ k + 1
  | 0, n, h => by rw [dec_small (by simpa using h)]; simp
  | k + 1, n, h => by
    by_cases h1 : n < 10
    · rw [dec_small h1]; simp
    · have := dec_len k (n / 10) (by rw [Nat.pow_succ] at h; omega)
      rw [dec_big (by omega)]
      simp
      omega
theorem head_app {l m : Bytes} (h : l ≠ []) : (l ++ m).head? = l.head? := by
  cases l with
  | nil => exact absurd rfl h
  | cons a t => rfl
theorem dec_head : ∀ (n : Nat), 1 ≤ n → (decB n).head? ≠ some 48 := by
  intro n
  induction n using Nat.strongRecOn with
  | ind n ih =>
    intro h1
    by_cases h : n < 10
    · rw [dec_small h]
      simp
      intro e
      have := congrArg UInt8.toNat e
      rw [digit_nat h] at this
      simp at this
      omega
    · rw [dec_big (by omega), head_app (dec_ne _)]
      exact ih (n / 10) (by omega) (by omega)
theorem dec_ok {n : Nat} (h : n < 1000000) : NumOk (decB n) := by
  refine ⟨List.length_pos_iff.2 (dec_ne n), dec_len 5 n (by simpa using h), fun h1 => dec_head n ?_, dec_dig n⟩
  by_cases h2 : n < 10
  · rw [dec_small h2] at h1
    simp at h1
  · omega
theorem num_dec {n : Nat} (h : n < 1000000) : numB (decB n) = some n := by rw [numB_mk (dec_ok h), dec_val]
theorem dec_of_val : ∀ (k : Nat) (l : Bytes), l.length = k + 1 → (∀ b ∈ l, isDig b) → (1 < l.length → l.head? ≠ some 48) → decB (valB l) = l ∧ (l.head? ≠ some 48 → 1 ≤ valB l)
  | 0, l, hl, hd, _ => by
    obtain ⟨b, rfl⟩ : ∃ b, l = [b] := by
      match l, hl with
      | [b], _ => exact ⟨b, rfl⟩
    have hb := hd b (by simp)
    have hv : valB [b] = b.toNat - 48 := by simp [valB]
    rw [hv]
    refine ⟨by rw [dec_small (by unfold isDig at hb; omega), digit_of hb], fun h => ?_⟩
    simp at h
    have : b.toNat ≠ 48 := fun e => h (UInt8.toNat_inj.1 e)
    unfold isDig at hb
    omega
  | k + 1, l, hl, hd, hh => by
    obtain ⟨m, b, rfl⟩ : ∃ m b, l = m ++ [b] := by
      have hne : l ≠ [] := by intro e; rw [e] at hl; simp at hl
      exact ⟨l.dropLast, l.getLast hne, (List.dropLast_concat_getLast hne).symm⟩
    have hm : m.length = k + 1 := by simpa using hl
    have hmn : m ≠ [] := by intro e; rw [e] at hm; simp at hm
    have hb := hd b (by simp)
    have h1 := hh (by simp; omega)
    rw [head_app hmn] at h1
    obtain ⟨ih1, ih2⟩ := dec_of_val k m hm (fun x hx => hd x (by simp [hx])) (fun _ => h1)
    have hpos := ih2 h1
    unfold isDig at hb
    rw [val_snoc]
    refine ⟨?_, fun _ => by omega⟩
    rw [dec_big (by omega), show (10 * valB m + (b.toNat - 48)) / 10 = valB m by omega, show (10 * valB m + (b.toNat - 48)) % 10 = b.toNat - 48 by omega, ih1, digit_of hb]
theorem dec_num {l : Bytes} {n : Nat} (h : numB l = some n) : l = decB n := by
  obtain ⟨⟨h1, h2, h3, h4⟩, rfl⟩ := numB_some h
  exact (dec_of_val (l.length - 1) l (by omega) h4 h3).1.symm
theorem num_lt {l : Bytes} {n : Nat} (h : numB l = some n) : n < 1000000 := by
  obtain ⟨⟨h1, h2, h3, h4⟩, rfl⟩ := numB_some h
  have key : ∀ (k : Nat) (l : Bytes), l.length ≤ k → (∀ b ∈ l, isDig b) → valB l < 10 ^ k := by
    intro k
    induction k with
    | zero =>
      intro l hl _
      have : l = [] := List.length_eq_zero_iff.1 (by omega)
      rw [this]
      simp [valB]
    | succ k ih =>
      intro l hl hd
      by_cases hne : l = []
      · rw [hne]; simp [valB]; exact Nat.pow_pos (by decide)
      · rw [← List.dropLast_concat_getLast hne, val_snoc]
        have h5 := ih l.dropLast (by simp; omega) (fun b hb => hd b ((List.dropLast_prefix l).subset hb))
        have h6 := hd _ (List.getLast_mem hne)
        unfold isDig at h6
        rw [Nat.pow_succ]
        omega
  have := key 6 l h2 h4
  simpa using this
theorem dig_ne {b : UInt8} (h : isDig b) : b ≠ 10 ∧ b ≠ 32 ∧ b ≠ 47 := by
  unfold isDig at h
  refine ⟨?_, ?_, ?_⟩ <;> rintro rfl <;> simp at h
theorem dec_free (n : Nat) : (10 : UInt8) ∉ decB n ∧ (32 : UInt8) ∉ decB n ∧ (47 : UInt8) ∉ decB n :=
  ⟨fun h => (dig_ne (dec_dig n _ h)).1 rfl, fun h => (dig_ne (dec_dig n _ h)).2.1 rfl, fun h => (dig_ne (dec_dig n _ h)).2.2 rfl⟩

/-! ### Ports and lines -/
abbrev Port := Nat × Nat
abbrev Node := Nat × List Port
noncomputable def portB (x : Bytes) : Option Port :=
  match splitB 47 x with
  | [a, b] => match numB a, numB b with
    | some t, some w => some (t, w)
    | _, _ => none
  | _ => none
noncomputable def portsB : List Bytes → Option (List Port)
  | [] => some []
  | x :: l => match portB x, portsB l with
    | some p, some ps => some (p :: ps)
    | _, _ => none
/-- the bytes of the word 'node' -/
def nodeW : Bytes := [110, 111, 100, 101]
noncomputable def lineB (l : Bytes) : Option Node :=
  match splitB 32 l with
  | k :: i :: ps => if k = nodeW then match numB i, portsB ps with
      | some id, some p => some (id, p)
      | _, _ => none
    else none
  | _ => none
def fmtPort (p : Port) : Bytes := decB p.1 ++ 47 :: decB p.2
def fmtLine (x : Node) : Bytes := joinB 32 (nodeW :: decB x.1 :: x.2.map fmtPort)
def PortSmall (p : Port) : Prop := p.1 < 1000000 ∧ p.2 < 1000000
def NodeSmall (x : Node) : Prop := x.1 < 1000000 ∧ ∀ p ∈ x.2, PortSmall p

theorem port_fmt {p : Port} (h : PortSmall p) : portB (fmtPort p) = some p := by
  unfold portB fmtPort
  rw [split_word_at (dec_free p.1).2.2, split_word (dec_free p.2).2.2]
  simp only [num_dec h.1, num_dec h.2]
theorem fmt_port {x : Bytes} {p : Port} (h : portB x = some p) : x = fmtPort p ∧ PortSmall p := by
  unfold portB at h
  split at h
  · rename_i a b e
    split at h
    · rename_i t w ha hb
      have hp : (t, w) = p := by simpa using h
      rw [← hp]
      have := join_split 47 x
      rw [e] at this
      simp only [joinB] at this
      unfold fmtPort
      rw [← this, dec_num ha, dec_num hb]
      exact ⟨rfl, num_lt ha, num_lt hb⟩
    · cases h
  · cases h
theorem ports_fmt : ∀ {ps : List Port}, (∀ p ∈ ps, PortSmall p) → portsB (ps.map fmtPort) = some ps
  | [], _ => rfl
  | p :: ps, h => by
    rw [List.map_cons, portsB, port_fmt (h p (by simp)), ports_fmt (fun q hq => h q (by simp [hq]))]
theorem fmt_ports : ∀ {l : List Bytes} {ps : List Port}, portsB l = some ps → l = ps.map fmtPort ∧ ∀ p ∈ ps, PortSmall p
  | [], ps, h => by
    have : ps = [] := by simpa [portsB] using h.symm
    rw [this]
    simp
  | x :: l, ps, h => by
    unfold portsB at h
    split at h
    · rename_i p qs hp hq
      have e : p :: qs = ps := by simpa using h
      obtain ⟨h1, h2⟩ := fmt_port hp
      obtain ⟨h3, h4⟩ := fmt_ports hq
      rw [← e, h1, h3]
      refine ⟨rfl, fun q hq => ?_⟩
      rcases List.mem_cons.1 hq with rfl | hq
      · exact h2
      · exact h4 q hq
    · cases h
theorem fmtPort_free (p : Port) : (10 : UInt8) ∉ fmtPort p ∧ (32 : UInt8) ∉ fmtPort p := by
  unfold fmtPort
  have h1 := dec_free p.1
  have h2 := dec_free p.2
  simp [h1, h2]
theorem words_free (x : Node) : ∀ w ∈ nodeW :: decB x.1 :: x.2.map fmtPort, (10 : UInt8) ∉ w ∧ (32 : UInt8) ∉ w := by
  intro w hw
  rcases List.mem_cons.1 hw with rfl | hw
  · unfold nodeW; decide
  rcases List.mem_cons.1 hw with rfl | hw
  · exact ⟨(dec_free x.1).1, (dec_free x.1).2.1⟩
  · obtain ⟨p, _, rfl⟩ := List.mem_map.1 hw
    exact fmtPort_free p
theorem line_fmt {x : Node} (h : NodeSmall x) : lineB (fmtLine x) = some x := by
  unfold lineB fmtLine
  rw [split_join (by simp) (fun w hw => (words_free x w hw).2)]
  simp only [if_true, num_dec h.1, ports_fmt h.2]
theorem fmt_line {l : Bytes} {x : Node} (h : lineB l = some x) : l = fmtLine x ∧ NodeSmall x := by
  unfold lineB at h
  split at h
  · rename_i k i ps e
    split at h
    · rename_i hk
      split at h
      · rename_i id p hi hp
        have hx : (id, p) = x := by simpa using h
        obtain ⟨h1, h2⟩ := fmt_ports hp
        have := join_split 32 l
        rw [e, hk, dec_num hi, h1] at this
        rw [← hx]
        exact ⟨this.symm, num_lt hi, h2⟩
      · cases h
    · cases h
  · cases h
theorem join_free {c d : UInt8} (hcd : c ≠ d) : ∀ {ws : List Bytes}, (∀ w ∈ ws, d ∉ w) → d ∉ joinB c ws
  | [], _ => by simp [joinB]
  | [w], h => by rw [joinB]; exact h w (by simp)
  | w :: v :: ws, h => by
    rw [joinB]
    have h1 := h w (by simp)
    have h2 := join_free hcd (ws := v :: ws) (fun x hx => h x (by simp [hx]))
    simp [h1, h2]
    exact fun e => hcd e.symm
theorem fmtLine_free (x : Node) : (10 : UInt8) ∉ fmtLine x := join_free (by decide) fun w hw => (words_free x w hw).1
theorem fmtLine_ne (x : Node) : fmtLine x ≠ [] := by
  unfold fmtLine nodeW
  cases x.2.map fmtPort <;> simp [joinB]

/-! ### Texts -/
/-- the lines of a text: behind a last line feed there is none -/
def linesB (t : Bytes) : List Bytes := if (splitB 10 t).getLast? = some [] then (splitB 10 t).dropLast else splitB 10 t
def fmtText (xs : List Node) : Bytes := xs.flatMap fun x => fmtLine x ++ [10]
/-- what the lines say, or the number of the first bad one, counted from k on -/
noncomputable def readB (k : Nat) : List Bytes → Nat ⊕ List Node
  | [] => .inr []
  | l :: ls => match lineB l with
    | none => .inl k
    | some x => match readB (k + 1) ls with
      | .inl e => .inl e
      | .inr xs => .inr (x :: xs)
noncomputable def textB (t : Bytes) : Nat ⊕ List Node := if linesB t = [] then .inl 1 else readB 1 (linesB t)

theorem split_lines : ∀ {ws : List Bytes}, (∀ w ∈ ws, (10 : UInt8) ∉ w) → splitB 10 (ws.flatMap fun w => w ++ [10]) = ws ++ [[]]
  | [], _ => rfl
  | w :: ws, h => by
    rw [List.flatMap_cons, List.append_assoc, List.singleton_append, split_word_at (h w (by simp)), split_lines (fun x hx => h x (by simp [hx]))]
    rfl
theorem lines_flat {ws : List Bytes} (h : ∀ w ∈ ws, (10 : UInt8) ∉ w) : linesB (ws.flatMap fun w => w ++ [10]) = ws := by
  unfold linesB
  rw [split_lines h]
  simp
theorem read_fmt : ∀ {xs : List Node} (k : Nat), (∀ x ∈ xs, NodeSmall x) → readB k (xs.map fmtLine) = .inr xs
  | [], _, _ => rfl
  | x :: xs, k, h => by
    rw [List.map_cons, readB, line_fmt (h x (by simp)), read_fmt (k + 1) (fun y hy => h y (by simp [hy]))]
theorem fmt_read : ∀ {ls : List Bytes} {k : Nat} {xs : List Node}, readB k ls = .inr xs → ls = xs.map fmtLine ∧ ∀ x ∈ xs, NodeSmall x
  | [], k, xs, h => by
    have : xs = [] := by simpa [readB] using h.symm
    rw [this]
    simp
  | l :: ls, k, xs, h => by
    unfold readB at h
    split at h
    · cases h
    · rename_i x hx
      split at h
      · cases h
      · rename_i ys hy
        have e : x :: ys = xs := by simpa using h
        obtain ⟨h1, h2⟩ := fmt_line hx
        obtain ⟨h3, h4⟩ := fmt_read hy
        rw [← e, h1, h3]
        refine ⟨rfl, fun y hy => ?_⟩
        rcases List.mem_cons.1 hy with rfl | hy
        · exact h2
        · exact h4 y hy
theorem fmtText_map (xs : List Node) : fmtText xs = (xs.map fmtLine).flatMap fun w => w ++ [10] := by
  unfold fmtText
  rw [List.flatMap_map]
/-- what is written is read back -/
theorem text_fmt {xs : List Node} (hne : xs ≠ []) (h : ∀ x ∈ xs, NodeSmall x) : textB (fmtText xs) = .inr xs := by
  unfold textB
  rw [fmtText_map, lines_flat (fun w hw => by obtain ⟨x, _, rfl⟩ := List.mem_map.1 hw; exact fmtLine_free x), if_neg (by simpa using hne), read_fmt 1 h]
theorem flat_join : ∀ {ws : List Bytes}, ws ≠ [] → (ws.flatMap fun w => w ++ [10]) = joinB 10 ws ++ [10]
  | [], h => absurd rfl h
  | [w], _ => by simp [joinB]
  | w :: v :: ws, _ => by
    rw [List.flatMap_cons, flat_join (ws := v :: ws) (by simp), joinB]
    simp
/-- .. also without the last line feed -/
theorem text_fmt_short {xs : List Node} (hne : xs ≠ []) (h : ∀ x ∈ xs, NodeSmall x) : textB (fmtText xs).dropLast = .inr xs := by
  have hm : xs.map fmtLine ≠ [] := by simpa using hne
  have hl : linesB (fmtText xs).dropLast = xs.map fmtLine := by
    unfold linesB
    rw [fmtText_map, flat_join hm, List.dropLast_concat, split_join hm (fun w hw => by obtain ⟨x, _, rfl⟩ := List.mem_map.1 hw; exact fmtLine_free x), if_neg]
    intro e
    obtain ⟨x, _, hx⟩ := List.mem_map.1 (List.mem_of_getLast? e)
    exact fmtLine_ne x hx
  unfold textB
  rw [hl, if_neg hm, read_fmt 1 h]
/-- what is read is written back -/
theorem fmt_text {t : Bytes} {xs : List Node} (h : textB t = .inr xs) : (fmtText xs = t ∨ fmtText xs = t ++ [10]) ∧ xs ≠ [] ∧ ∀ x ∈ xs, NodeSmall x := by
  unfold textB at h
  split at h
  · cases h
  · rename_i hne
    obtain ⟨h1, h2⟩ := fmt_read h
    have hxs : xs ≠ [] := fun e => hne (by rw [h1, e]; rfl)
    refine ⟨?_, hxs, h2⟩
    have hf : fmtText xs = joinB 10 (linesB t) ++ [10] := by rw [fmtText_map, ← h1, flat_join hne]
    have hj := join_split 10 t
    unfold linesB at hf hne
    split at hf
    · rename_i hl
      rw [if_pos hl] at hne
      left
      obtain ⟨ws, hws⟩ : ∃ ws, splitB 10 t = ws ++ [[]] := by
        have h3 := split_ne 10 t
        refine ⟨(splitB 10 t).dropLast, ?_⟩
        rw [List.getLast?_eq_some_getLast h3] at hl
        have h4 : (splitB 10 t).getLast h3 = [] := by simpa using hl
        rw [← h4, List.dropLast_concat_getLast h3]
      rw [hf, hws, List.dropLast_concat]
      rw [hws] at hj hne
      rw [List.dropLast_concat] at hne
      rw [← hj]
      have key : ∀ {ws : List Bytes}, ws ≠ [] → joinB 10 (ws ++ [[]]) = joinB 10 ws ++ [10] := by
        intro ws
        induction ws with
        | nil => intro h; exact absurd rfl h
        | cons w ws ih =>
          intro _
          cases ws with
          | nil => simp [joinB]
          | cons v vs =>
            have := ih (by simp)
            simp only [List.cons_append, joinB] at this ⊢
            rw [this]
            simp
      exact (key hne).symm
    · right
      rw [hf, hj]
theorem fmtText_inj {xs ys : List Node} (hx : xs ≠ []) (hy : ys ≠ []) (h1 : ∀ x ∈ xs, NodeSmall x) (h2 : ∀ x ∈ ys, NodeSmall x) (h : fmtText xs = fmtText ys) : xs = ys := by
  have e1 := text_fmt hx h1
  rw [h, text_fmt hy h2] at e1
  simpa using e1.symm
/-- a bad line is named -/
theorem read_bad : ∀ {ls : List Bytes} {k j : Nat} {w : Bytes}, (∀ l ∈ ls, ∃ x, lineB l = some x) → j ≤ ls.length → lineB w = none → readB k (ls.take j ++ w :: ls.drop j) = .inl (k + j)
  | ls, k, 0, w, _, _, hw => by simp [readB, hw]
  | [], k, j + 1, w, _, hj, _ => by simp at hj
  | l :: ls, k, j + 1, w, h, hj, hw => by
    obtain ⟨x, hx⟩ := h l (by simp)
    have := read_bad (ls := ls) (k := k + 1) (j := j) (fun y hy => h y (by simp [hy])) (by simpa using hj) hw
    simp only [List.take_succ_cons, List.drop_succ_cons, List.cons_append, readB, hx, this]
    congr 1
    omega
end Go.Proofs.Ytkffpipcjdhbaaa
