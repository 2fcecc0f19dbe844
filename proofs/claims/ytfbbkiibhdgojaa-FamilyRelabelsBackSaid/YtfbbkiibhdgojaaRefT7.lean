/- What Parse of the specification of layer 2 answers: a text that is too long; how a result that lies in a cell is returned. -/
import Derived.Test.YtfbbkiibhdgojaaMath1
import Derived.Test.YtfbbkiibhdgojaaQueue
import Derived.Test.YtfbbkiibhdgojaaRef01V
import Derived.Deep.RegionHeld3
import Derived.Test.YtfbbkiibhdgojaaSame
namespace Go.Proofs.Ytfbbkiibhdgojaa

abbrev Bytes := List UInt8

/-! ### Cutting at a byte -/
def splitB (c : UInt8) : Bytes → List Bytes
  | [] => [[]]
  | x :: l => if x = c then [] :: splitB c l else match splitB c l with
    | [] => [[x]]
    | w :: ws => (x :: w) :: ws
def preHead (p : Bytes) : List Bytes → List Bytes
  | [] => [p]
  | w :: ws => (p ++ w) :: ws
def joinB (c : UInt8) : List Bytes → Bytes
  | [] => []
  | [w] => w
  | w :: v :: ws => w ++ c :: joinB c (v :: ws)

theorem split_ne (c : UInt8) (l : Bytes) : splitB c l ≠ [] := by
  cases l with
  | nil => simp [splitB]
  | cons x l =>
    unfold splitB
    split
    · simp
    · split <;> simp
theorem split_cons (c : UInt8) (l : Bytes) : ∃ w ws, splitB c l = w :: ws := by
  cases h : splitB c l with
  | nil => exact absurd h (split_ne c l)
  | cons w ws => exact ⟨w, ws, rfl⟩
theorem split_at (c : UInt8) (l : Bytes) : splitB c (c :: l) = [] :: splitB c l := by simp [splitB]
theorem split_other {c x : UInt8} (h : x ≠ c) (l : Bytes) : splitB c (x :: l) = preHead [x] (splitB c l) := by
  obtain ⟨w, ws, e⟩ := split_cons c l
  simp [splitB, h, e, preHead]
theorem split_free {c : UInt8} : ∀ {p : Bytes}, c ∉ p → ∀ l, splitB c (p ++ l) = preHead p (splitB c l)
  | [], _, l => by
    obtain ⟨w, ws, e⟩ := split_cons c l
    simp [preHead, e]
  | x :: p, h, l => by
    have hx : x ≠ c := fun e => h (by simp [e])
    have hp : c ∉ p := fun e => h (by simp [e])
    obtain ⟨w, ws, e⟩ := split_cons c l
    rw [List.cons_append, split_other hx, split_free hp, e]
    simp [preHead]
theorem split_word {c : UInt8} {p : Bytes} (h : c ∉ p) : splitB c p = [p] := by
  have := split_free h []
  simpa [splitB, preHead] using this
theorem split_word_at {c : UInt8} {p : Bytes} (h : c ∉ p) (l : Bytes) : splitB c (p ++ c :: l) = p :: splitB c l := by
  rw [split_free h, split_at]
  simp [preHead]
theorem split_no {c : UInt8} : ∀ {l : Bytes} {w : Bytes}, w ∈ splitB c l → c ∉ w
  | [], w, h => by
    simp [splitB] at h
    rw [h]
    simp
  | x :: l, w, h => by
    by_cases hx : x = c
    · rw [hx, split_at] at h
      rcases List.mem_cons.1 h with rfl | h
      · simp
      · exact split_no h
    · rw [split_other hx] at h
      obtain ⟨v, vs, e⟩ := split_cons c l
      rw [e] at h
      simp [preHead] at h
      rcases h with rfl | h
      · have := split_no (c := c) (l := l) (w := v) (by rw [e]; simp)
        simp [this]
        exact fun e => hx e.symm
      · exact split_no (l := l) (by rw [e]; simp [h])
theorem join_split (c : UInt8) : ∀ l : Bytes, joinB c (splitB c l) = l
  | [] => rfl
  | x :: l => by
    have ih := join_split c l
    obtain ⟨w, ws, e⟩ := split_cons c l
    by_cases hx : x = c
    · rw [hx, split_at, e, joinB, ← e, ih]
      rfl
    · rw [split_other hx, e]
      rw [e] at ih
      cases ws with
      | nil =>
        simp only [preHead, joinB] at ih ⊢
        rw [ih]
        rfl
      | cons v vs =>
        simp only [preHead, joinB] at ih ⊢
        rw [← ih]
        rfl
theorem split_join {c : UInt8} : ∀ {ws : List Bytes}, ws ≠ [] → (∀ w ∈ ws, c ∉ w) → splitB c (joinB c ws) = ws
  | [], h, _ => absurd rfl h
  | [w], _, h => by rw [joinB]; exact split_word (h w (by simp))
  | w :: v :: ws, _, h => by
    rw [joinB, split_word_at (h w (by simp)), split_join (ws := v :: ws) (by simp) (fun x hx => h x (by simp [hx]))]

/-! ### Numbers -/
def isDig (b : UInt8) : Prop := 48 ≤ b.toNat ∧ b.toNat ≤ 57
instance (b : UInt8) : Decidable (isDig b) := inferInstanceAs (Decidable (_ ∧ _))
def digit (d : Nat) : UInt8 := UInt8.ofNat (48 + d)
theorem digit_nat {d : Nat} (h : d < 10) : (digit d).toNat = 48 + d := by
  unfold digit
  rw [UInt8.toNat_ofNat']
  omega
theorem digit_is {d : Nat} (h : d < 10) : isDig (digit d) := by unfold isDig; rw [digit_nat h]; omega
theorem digit_of {b : UInt8} (h : isDig b) : digit (b.toNat - 48) = b := by
  obtain ⟨h1, h2⟩ := h
  apply UInt8.toNat_inj.1
  rw [digit_nat (by omega)]
  omega
def valB (l : Bytes) : Nat := l.foldl (fun v b => 10 * v + (b.toNat - 48)) 0
theorem val_snoc (l : Bytes) (b : UInt8) : valB (l ++ [b]) = 10 * valB l + (b.toNat - 48) := by simp [valB]
/-- the form of a number: 1 to 6 digits, no leading zero -/
def NumOk (l : Bytes) : Prop := 1 ≤ l.length ∧ l.length ≤ 6 ∧ (1 < l.length → l.head? ≠ some 48) ∧ ∀ b ∈ l, isDig b
open Classical in
noncomputable def numB (l : Bytes) : Option Nat := if NumOk l then some (valB l) else none
theorem numB_some {l : Bytes} {n : Nat} (h : numB l = some n) : NumOk l ∧ valB l = n := by
  unfold numB at h
  split at h
  · rename_i h1
    exact ⟨h1, by simpa using h⟩
  · cases h
theorem numB_mk {l : Bytes} (h : NumOk l) : numB l = some (valB l) := by unfold numB; rw [if_pos h]
theorem numB_none {l : Bytes} (h : ¬ NumOk l) : numB l = none := by unfold numB; rw [if_neg h]

def decB (n : Nat) : Bytes := if n < 10 then [digit n] else decB (n / 10) ++ [digit (n % 10)]
termination_by n
theorem dec_small {n : Nat} (h : n < 10) : decB n = [digit n] := by unfold decB; rw [if_pos h]
theorem dec_big {n : Nat} (h : 10 ≤ n) : decB n = decB (n / 10) ++ [digit (n % 10)] := by rw [decB, if_neg (by omega)]
theorem dec_ne (n : Nat) : decB n ≠ [] := by
  by_cases h : n < 10
  · rw [dec_small h]; simp
  · rw [dec_big (by omega)]; simp
theorem dec_dig : ∀ (n : Nat), ∀ b ∈ decB n, isDig b := by
  intro n
  induction n using Nat.strongRecOn with
  | ind n ih =>
    intro b hb
    by_cases h : n < 10
    · rw [dec_small h, List.mem_singleton] at hb
      rw [hb]; exact digit_is h
    · rw [dec_big (by omega)] at hb
      rcases List.mem_append.1 hb with hb | hb
      · exact ih (n / 10) (by omega) b hb
      · rw [List.mem_singleton] at hb
        rw [hb]; exact digit_is (by omega)
theorem dec_val : ∀ (n : Nat), valB (decB n) = n := by
  intro n
  induction n using Nat.strongRecOn with
  | ind n ih =>
    by_cases h : n < 10
    · rw [dec_small h]
      simp [valB, digit_nat h]
    · rw [dec_big (by omega), val_snoc, ih (n / 10) (by omega), digit_nat (by omega)]
      omega
theorem dec_len : ∀ (k n : Nat), n < 10 ^ (k + 1) → (decB n).length ≤ k + 1
  | 0, n, h => by rw [dec_small (by simpa using h)]; simp
  | k + 1, n, h => by
    by_cases h1 : n < 10
    · rw [dec_small h1]; simp
    · have := dec_len k (n / 10) (by rw [Nat.pow_succ] at h; omega)
      rw [dec_big (by omega)]
      simp
      omega
theorem head_app {l m : Bytes} (h : l ≠ []) : (l ++ m).head? = l.head? := by
  cases l with
  | nil => exact absurd rfl h
  | cons a t => rfl
theorem dec_head : ∀ (n : Nat), 1 ≤ n → (decB n).head? ≠ some 48 := by
  intro n
  induction n using Nat.strongRecOn with
  | ind n ih =>
    intro h1
    by_cases h : n < 10
    · rw [dec_small h]
      simp
      intro e
      have := congrArg UInt8.toNat e
      rw [digit_nat h] at this
      simp at this
      omega
    · rw [dec_big (by omega), head_app (dec_ne _)]
      exact ih (n / 10) (by omega) (by omega)
theorem dec_ok {n : Nat} (h : n < 1000000) : NumOk (decB n) := by
  refine ⟨List.length_pos_iff.2 (dec_ne n), dec_len 5 n (by simpa using h), fun h1 => dec_head n ?_, dec_dig n⟩
  by_cases h2 : n < 10
  · rw [dec_small h2] at h1
    simp at h1
  · omega
theorem num_dec {n : Nat} (h : n < 1000000) : numB (decB n) = some n := by rw [numB_mk (dec_ok h), dec_val]
theorem dec_of_val : ∀ (k : Nat) (l : Bytes), l.length = k + 1 → (∀ b ∈ l, isDig b) → (1 < l.length → l.head? ≠ some 48) → decB (valB l) = l ∧ (l.head? ≠ some 48 → 1 ≤ valB l)
  | 0, l, hl, hd, _ => by
    obtain ⟨b, rfl⟩ : ∃ b, l = [b] := by
      match l, hl with
      | [b], _ => exact ⟨b, rfl⟩
    have hb := hd b (by simp)
    have hv : valB [b] = b.toNat - 48 := by simp [valB]
    rw [hv]
    refine ⟨by rw [dec_small (by unfold isDig at hb; omega), digit_of hb], fun h => ?_⟩
    simp at h
    have : b.toNat ≠ 48 := fun e => h (UInt8.toNat_inj.1 e)
    unfold isDig at hb
    omega
  | k + 1, l, hl, hd, hh => by
    obtain ⟨m, b, rfl⟩ : ∃ m b, l = m ++ [b] := by
      have hne : l ≠ [] := by intro e; rw [e] at hl; simp at hl
      exact ⟨l.dropLast, l.getLast hne, (List.dropLast_concat_getLast hne).symm⟩
    have hm : m.length = k + 1 := by simpa using hl
    have hmn : m ≠ [] := by intro e; rw [e] at hm; simp at hm
    have hb := hd b (by simp)
    have h1 := hh (by simp; omega)
    rw [head_app hmn] at h1
    obtain ⟨ih1, ih2⟩ := dec_of_val k m hm (fun x hx => hd x (by simp [hx])) (fun _ => h1)
    have hpos := ih2 h1
    unfold isDig at hb
    rw [val_snoc]
    refine ⟨?_, fun _ => by omega⟩
    rw [dec_big (by omega), show (10 * valB m + (b.toNat - 48)) / 10 = valB m by omega, show (10 * valB m + (b.toNat - 48)) % 10 = b.toNat - 48 by omega, ih1, digit_of hb]
theorem dec_num {l : Bytes} {n : Nat} (h : numB l = some n) : l = decB n := by
  obtain ⟨⟨h1, h2, h3, h4⟩, rfl⟩ := numB_some h
  exact (dec_of_val (l.length - 1) l (by omega) h4 h3).1.symm
theorem num_lt {l : Bytes} {n : Nat} (h : numB l = some n) : n < 1000000 := by
  obtain ⟨⟨h1, h2, h3, h4⟩, rfl⟩ := numB_some h
  have key : ∀ (k : Nat) (l : Bytes), l.length ≤ k → (∀ b ∈ l, isDig b) → valB l < 10 ^ k := by
    intro k
    induction k with
    | zero =>
      intro l hl _
      have : l = [] := List.length_eq_zero_iff.1 (by omega)
      rw [this]
      simp [valB]
    | succ k ih =>
      intro l hl hd
      by_cases hne : l = []
      · rw [hne]; simp [valB]; exact Nat.pow_pos (by decide)
      · rw [← List.dropLast_concat_getLast hne, val_snoc]
        have h5 := ih l.dropLast (by simp; omega) (fun b hb => hd b ((List.dropLast_prefix l).subset hb))
        have h6 := hd _ (List.getLast_mem hne)
        unfold isDig at h6
        rw [Nat.pow_succ]
        omega
  have := key 6 l h2 h4
  simpa using this
theorem dig_ne {b : UInt8} (h : isDig b) : b ≠ 10 ∧ b ≠ 32 ∧ b ≠ 47 := by
  unfold isDig at h
  refine ⟨?_, ?_, ?_⟩ <;> rintro rfl <;> simp at h
theorem dec_free (n : Nat) : (10 : UInt8) ∉ decB n ∧ (32 : UInt8) ∉ decB n ∧ (47 : UInt8) ∉ decB n :=
  ⟨fun h => (dig_ne (dec_dig n _ h)).1 rfl, fun h => (dig_ne (dec_dig n _ h)).2.1 rfl, fun h => (dig_ne (dec_dig n _ h)).2.2 rfl⟩

/-! ### Ports and lines -/
abbrev Port := Nat × Nat
abbrev Node := Nat × List Port
noncomputable def portB (x : Bytes) : Option Port :=
  match splitB 47 x with
  | [a, b] => match numB a, numB b with
    | some t, some w => some (t, w)
    | _, _ => none
  | _ => none
noncomputable def portsB : List Bytes → Option (List Port)
  | [] => some []
  | x :: l => match portB x, portsB l with
    | some p, some ps => some (p :: ps)
    | _, _ => none
/-- the bytes of the word 'node' -/
def nodeW : Bytes := [110, 111, 100, 101]
noncomputable def lineB (l : Bytes) : Option Node :=
  match splitB 32 l with
  | k :: i :: ps => if k = nodeW then match numB i, portsB ps with
      | some id, some p => some (id, p)
      | _, _ => none
    else none
  | _ => none
def fmtPort (p : Port) : Bytes := decB p.1 ++ 47 :: decB p.2
def fmtLine (x : Node) : Bytes := joinB 32 (nodeW :: decB x.1 :: x.2.map fmtPort)
def PortSmall (p : Port) : Prop := p.1 < 1000000 ∧ p.2 < 1000000
def NodeSmall (x : Node) : Prop := x.1 < 1000000 ∧ ∀ p ∈ x.2, PortSmall p

theorem port_fmt {p : Port} (h : PortSmall p) : portB (fmtPort p) = some p := by
  unfold portB fmtPort
  rw [split_word_at (dec_free p.1).2.2, split_word (dec_free p.2).2.2]
  simp only [num_dec h.1, num_dec h.2]
theorem fmt_port {x : Bytes} {p : Port} (h : portB x = some p) : x = fmtPort p ∧ PortSmall p := by
  unfold portB at h
  split at h
  · rename_i a b e
    split at h
    · rename_i t w ha hb
      have hp : (t, w) = p := by simpa using h
      rw [← hp]
      have := join_split 47 x
      rw [e] at this
      simp only [joinB] at this
      unfold fmtPort
      rw [← this, dec_num ha, dec_num hb]
      exact ⟨rfl, num_lt ha, num_lt hb⟩
    · cases h
  · cases h
theorem ports_fmt : ∀ {ps : List Port}, (∀ p ∈ ps, PortSmall p) → portsB (ps.map fmtPort) = some ps
  | [], _ => rfl
  | p :: ps, h => by
    rw [List.map_cons, portsB, port_fmt (h p (by simp)), ports_fmt (fun q hq => h q (by simp [hq]))]
theorem fmt_ports : ∀ {l : List Bytes} {ps : List Port}, portsB l = some ps → l = ps.map fmtPort ∧ ∀ p ∈ ps, PortSmall p
  | [], ps, h => by
    have : ps = [] := by simpa [portsB] using h.symm
    rw [this]
    simp
  | x :: l, ps, h => by
    unfold portsB at h
    split at h
    · rename_i p qs hp hq
      have e : p :: qs = ps := by simpa using h
      obtain ⟨h1, h2⟩ := fmt_port hp
      obtain ⟨h3, h4⟩ := fmt_ports hq
      rw [← e, h1, h3]
      refine ⟨rfl, fun q hq => ?_⟩
      rcases List.mem_cons.1 hq with rfl | hq
      · exact h2
      · exact h4 q hq
    · cases h
theorem fmtPort_free (p : Port) : (10 : UInt8) ∉ fmtPort p ∧ (32 : UInt8) ∉ fmtPort p := by
  unfold fmtPort
  have h1 := dec_free p.1
  have h2 := dec_free p.2
  simp [h1, h2]
theorem words_free (x : Node) : ∀ w ∈ nodeW :: decB x.1 :: x.2.map fmtPort, (10 : UInt8) ∉ w ∧ (32 : UInt8) ∉ w := by
  intro w hw
  rcases List.mem_cons.1 hw with rfl | hw
  · unfold nodeW; decide
  rcases List.mem_cons.1 hw with rfl | hw
  · exact ⟨(dec_free x.1).1, (dec_free x.1).2.1⟩
  · obtain ⟨p, _, rfl⟩ := List.mem_map.1 hw
    exact fmtPort_free p
theorem line_fmt {x : Node} (h : NodeSmall x) : lineB (fmtLine x) = some x := by
  unfold lineB fmtLine
  rw [split_join (by simp) (fun w hw => (words_free x w hw).2)]
  simp only [if_true, num_dec h.1, ports_fmt h.2]
theorem fmt_line {l : Bytes} {x : Node} (h : lineB l = some x) : l = fmtLine x ∧ NodeSmall x := by
  unfold lineB at h
  split at h
  · rename_i k i ps e
    split at h
    · rename_i hk
      split at h
      · rename_i id p hi hp
        have hx : (id, p) = x := by simpa using h
        obtain ⟨h1, h2⟩ := fmt_ports hp
        have := join_split 32 l
        rw [e, hk, dec_num hi, h1] at this
        rw [← hx]
        exact ⟨this.symm, num_lt hi, h2⟩
      · cases h
    · cases h
  · cases h
theorem join_free {c d : UInt8} (hcd : c ≠ d) : ∀ {ws : List Bytes}, (∀ w ∈ ws, d ∉ w) → d ∉ joinB c ws
  | [], _ => by simp [joinB]
  | [w], h => by rw [joinB]; exact h w (by simp)
  | w :: v :: ws, h => by
    rw [joinB]
    have h1 := h w (by simp)
    have h2 := join_free hcd (ws := v :: ws) (fun x hx => h x (by simp [hx]))
    simp [h1, h2]
    exact fun e => hcd e.symm
theorem fmtLine_free (x : Node) : (10 : UInt8) ∉ fmtLine x := join_free (by decide) fun w hw => (words_free x w hw).1
theorem fmtLine_ne (x : Node) : fmtLine x ≠ [] := by
  unfold fmtLine nodeW
  cases x.2.map fmtPort <;> simp [joinB]

/-! ### Texts -/
/-- the lines of a text: behind a last line feed there is none -/
def linesB (t : Bytes) : List Bytes := if (splitB 10 t).getLast? = some [] then (splitB 10 t).dropLast else splitB 10 t
def fmtText (xs : List Node) : Bytes := xs.flatMap fun x => fmtLine x ++ [10]
/-- what the lines say, or the number of the first bad one, counted from k on -/
noncomputable def readB (k : Nat) : List Bytes → Nat ⊕ List Node
  | [] => .inr []
  | l :: ls => match lineB l with
    | none => .inl k
    | some x => match readB (k + 1) ls with
      | .inl e => .inl e
      | .inr xs => .inr (x :: xs)
noncomputable def textB (t : Bytes) : Nat ⊕ List Node := if linesB t = [] then .inl 1 else readB 1 (linesB t)

theorem split_lines : ∀ {ws : List Bytes}, (∀ w ∈ ws, (10 : UInt8) ∉ w) → splitB 10 (ws.flatMap fun w => w ++ [10]) = ws ++ [[]]
  | [], _ => rfl
  | w :: ws, h => by
    rw [List.flatMap_cons, List.append_assoc, List.singleton_append, split_word_at (h w (by simp)), split_lines (fun x hx => h x (by simp [hx]))]
    rfl
theorem lines_flat {ws : List Bytes} (h : ∀ w ∈ ws, (10 : UInt8) ∉ w) : linesB (ws.flatMap fun w => w ++ [10]) = ws := by
  unfold linesB
  rw [split_lines h]
  simp
theorem read_fmt : ∀ {xs : List Node} (k : Nat), (∀ x ∈ xs, NodeSmall x) → readB k (xs.map fmtLine) = .inr xs
  | [], _, _ => rfl
  | x :: xs, k, h => by
    rw [List.map_cons, readB, line_fmt (h x (by simp)), read_fmt (k + 1) (fun y hy => h y (by simp [hy]))]
theorem fmt_read : ∀ {ls : List Bytes} {k : Nat} {xs : List Node}, readB k ls = .inr xs → ls = xs.map fmtLine ∧ ∀ x ∈ xs, NodeSmall x
  | [], k, xs, h => by
    have : xs = [] := by simpa [readB] using h.symm
    rw [this]
    simp
  | l :: ls, k, xs, h => by
    unfold readB at h
    split at h
    · cases h
    · rename_i x hx
      split at h
      · cases h
      · rename_i ys hy
        have e : x :: ys = xs := by simpa using h
        obtain ⟨h1, h2⟩ := fmt_line hx
        obtain ⟨h3, h4⟩ := fmt_read hy
        rw [← e, h1, h3]
        refine ⟨rfl, fun y hy => ?_⟩
        rcases List.mem_cons.1 hy with rfl | hy
        · exact h2
        · exact h4 y hy
theorem fmtText_map (xs : List Node) : fmtText xs = (xs.map fmtLine).flatMap fun w => w ++ [10] := by
  unfold fmtText
  rw [List.flatMap_map]
/-- what is written is read back -/
theorem text_fmt {xs : List Node} (hne : xs ≠ []) (h : ∀ x ∈ xs, NodeSmall x) : textB (fmtText xs) = .inr xs := by
  unfold textB
  rw [fmtText_map, lines_flat (fun w hw => by obtain ⟨x, _, rfl⟩ := List.mem_map.1 hw; exact fmtLine_free x), if_neg (by simpa using hne), read_fmt 1 h]
theorem flat_join : ∀ {ws : List Bytes}, ws ≠ [] → (ws.flatMap fun w => w ++ [10]) = joinB 10 ws ++ [10]
  | [], h => absurd rfl h
  | [w], _ => by simp [joinB]
  | w :: v :: ws, _ => by
    rw [List.flatMap_cons, flat_join (ws := v :: ws) (by simp), joinB]
    simp
/-- .. also without the last line feed -/
theorem text_fmt_short {xs : List Node} (hne : xs ≠ []) (h : ∀ x ∈ xs, NodeSmall x) : textB (fmtText xs).dropLast = .inr xs := by
  have hm : xs.map fmtLine ≠ [] := by simpa using hne
  have hl : linesB (fmtText xs).dropLast = xs.map fmtLine := by
    unfold linesB
    rw [fmtText_map, flat_join hm, List.dropLast_concat, split_join hm (fun w hw => by obtain ⟨x, _, rfl⟩ := List.mem_map.1 hw; exact fmtLine_free x), if_neg]
    intro e
    obtain ⟨x, _, hx⟩ := List.mem_map.1 (List.mem_of_getLast? e)
    exact fmtLine_ne x hx
  unfold textB
  rw [hl, if_neg hm, read_fmt 1 h]
/-- what is read is written back -/
theorem fmt_text {t : Bytes} {xs : List Node} (h : textB t = .inr xs) : (fmtText xs = t ∨ fmtText xs = t ++ [10]) ∧ xs ≠ [] ∧ ∀ x ∈ xs, NodeSmall x := by
  unfold textB at h
  split at h
  · cases h
  · rename_i hne
    obtain ⟨h1, h2⟩ := fmt_read h
    have hxs : xs ≠ [] := fun e => hne (by rw [h1, e]; rfl)
    refine ⟨?_, hxs, h2⟩
    have hf : fmtText xs = joinB 10 (linesB t) ++ [10] := by rw [fmtText_map, ← h1, flat_join hne]
    have hj := join_split 10 t
    unfold linesB at hf hne
    split at hf
    · rename_i hl
      rw [if_pos hl] at hne
      left
      obtain ⟨ws, hws⟩ : ∃ ws, splitB 10 t = ws ++ [[]] := by
        have h3 := split_ne 10 t
        refine ⟨(splitB 10 t).dropLast, ?_⟩
        rw [List.getLast?_eq_some_getLast h3] at hl
        have h4 : (splitB 10 t).getLast h3 = [] := by simpa using hl
        rw [← h4, List.dropLast_concat_getLast h3]
      rw [hf, hws, List.dropLast_concat]
      rw [hws] at hj hne
      rw [List.dropLast_concat] at hne
      rw [← hj]
      have key : ∀ {ws : List Bytes}, ws ≠ [] → joinB 10 (ws ++ [[]]) = joinB 10 ws ++ [10] := by
        intro ws
        induction ws with
        | nil => intro h; exact absurd rfl h
        | cons w ws ih =>
          intro _
          cases ws with
          | nil => simp [joinB]
          | cons v vs =>
            have := ih (by simp)
            simp only [List.cons_append, joinB] at this ⊢
            rw [this]
            simp
      exact (key hne).symm
    · right
      rw [hf, hj]
theorem fmtText_inj {xs ys : List Node} (hx : xs ≠ []) (hy : ys ≠ []) (h1 : ∀ x ∈ xs, NodeSmall x) (h2 : ∀ x ∈ ys, NodeSmall x) (h : fmtText xs = fmtText ys) : xs = ys := by
  have e1 := text_fmt hx h1
  rw [h, text_fmt hy h2] at e1
  simpa using e1.symm
/-- a bad line is named -/
theorem read_bad : ∀ {ls : List Bytes} {k j : Nat} {w : Bytes}, (∀ l ∈ ls, ∃ x, lineB l = some x) → j ≤ ls.length → lineB w = none → readB k (ls.take j ++ w :: ls.drop j) = .inl (k + j)
  | ls, k, 0, w, _, _, hw => by simp [readB, hw]
  | [], k, j + 1, w, _, hj, _ => by simp at hj
  | l :: ls, k, j + 1, w, h, hj, hw => by
    obtain ⟨x, hx⟩ := h l (by simp)
    have := read_bad (ls := ls) (k := k + 1) (j := j) (fun y hy => h y (by simp [hy])) (by simpa using hj) hw
    simp only [List.take_succ_cons, List.drop_succ_cons, List.cons_append, readB, hx, this]
    congr 1
    omega
end Go.Proofs.Ytfbbkiibhdgojaa
namespace Go.Proofs.Ytfbbkiibhdgojaa
open Go.RowKit

noncomputable def numI (l : Bytes) : Int := match numB l with
  | some n => n
  | none => 0
noncomputable def numK (l : Bytes) : Bool := (numB l).isSome
theorem numI_ok {l : Bytes} (h : NumOk l) : numI l = valB l ∧ numK l = true := by unfold numI numK; rw [numB_mk h]; exact ⟨rfl, rfl⟩
theorem numI_not {l : Bytes} (h : ¬ NumOk l) : numI l = 0 ∧ numK l = false := by unfold numI numK; rw [numB_none h]; exact ⟨rfl, rfl⟩
theorem ret_ib {a c : Int} {b d : Bool} (h : a = c ∧ b = d) : Ending.returned (.tuple #[.int .i64 a, .bool b]) = .returned (.tuple #[.int .i64 c, .bool d]) := by rw [h.1, h.2]
theorem take_snoc (s : ByteArray) (k : Nat) (h : k < s.size) : s.data.toList.take (k + 1) = s.data.toList.take k ++ [s[k]] := by
  rw [List.take_succ_eq_append_getElem (by simpa using h)]; rfl
theorem mem_at (s : ByteArray) (k : Nat) (h : k < s.size) : s[k] ∈ s.data.toList := by
  have : s[k] = s.data.toList[k]'(by simpa using h) := rfl
  rw [this]
  exact List.getElem_mem _
theorem val_lt : ∀ (k : Nat) (l : Bytes), l.length ≤ k → (∀ b ∈ l, isDig b) → valB l < 10 ^ k := by
  intro k
  induction k with
  | zero =>
    intro l hl _
    have : l = [] := List.length_eq_zero_iff.1 (by omega)
    rw [this]
    simp [valB]
  | succ k ih =>
    intro l hl hd
    by_cases hne : l = []
    · rw [hne]; simp [valB]; exact Nat.pow_pos (by decide)
    · rw [← List.dropLast_concat_getLast hne, val_snoc]
      have h5 := ih l.dropLast (by simp; omega) (fun b hb => hd b ((List.dropLast_prefix l).subset hb))
      have h6 := hd _ (List.getLast_mem hne)
      unfold isDig at h6
      rw [Nat.pow_succ]
      omega

end Go.Proofs.Ytfbbkiibhdgojaa
namespace Go.Proofs.Ytfbbkiibhdgojaa
open Go.RowKit

def strV (l : Bytes) : Value := .string ⟨l.toArray⟩
theorem info9 : (Try.prog.info? 9).map (fun i => (i.zero, i.size, i.bytes)) = some (some (.string ByteArray.empty), 1, 16) := by kernel_rfl
theorem extract_eq (s : ByteArray) (a b : Nat) : Value.string (s.extract a b) = strV ((s.data.toList.drop a).take (b - a)) := by
  unfold strV
  congr 1
  apply ByteArray.ext
  rw [ByteArray.data_extract]
  apply Array.toList_inj.1
  rw [Array.toList_extract]
theorem strV_self (s : ByteArray) : Value.string s = strV s.data.toList := by
  unfold strV
  congr 1

/-- the row of the words ws, that the call owns -/
def WordsAt (base : Nat) (w : World) (v : Value) (ws : List Bytes) : Prop := w.ownsRow base 9 1 v ws.length (ws.map strV)
/-- ws and the rest from f on, of which the first k - f bytes have no c, are the words of l -/
def CutAt (c : UInt8) (l : Bytes) (ws : List Bytes) (f k : Nat) : Prop :=
  splitB c l = ws ++ splitB c (l.drop f) ∧ c ∉ (l.drop f).take (k - f) ∧ ws.length ≤ f ∧ f ≤ k ∧ k ≤ l.length
theorem CutAt.zero (c : UInt8) (l : Bytes) : CutAt c l [] 0 0 := ⟨rfl, by simp, Nat.le_refl _, Nat.le_refl _, Nat.zero_le _⟩
theorem CutAt.next {c : UInt8} {l : Bytes} {ws : List Bytes} {f k : Nat} (h : CutAt c l ws f k) (hk : k < l.length) (hx : l[k] ≠ c) : CutAt c l ws f (k + 1) := by
  obtain ⟨h1, h2, h3, h4, h5⟩ := h
  refine ⟨h1, ?_, h3, by omega, hk⟩
  have e : (l.drop f).take (k + 1 - f) = (l.drop f).take (k - f) ++ [l[k]] := by
    rw [show k + 1 - f = (k - f) + 1 by omega, List.take_succ_eq_append_getElem (by simp; omega)]
    simp [show f + (k - f) = k by omega]
  rw [e]
  simp [h2]
  exact fun e => hx e.symm
theorem CutAt.cut {c : UInt8} {l : Bytes} {ws : List Bytes} {f k : Nat} (h : CutAt c l ws f k) (hk : k < l.length) (hx : l[k] = c) : CutAt c l (ws ++ [(l.drop f).take (k - f)]) (k + 1) (k + 1) := by
  obtain ⟨h1, h2, h3, h4, h5⟩ := h
  have e : l.drop f = (l.drop f).take (k - f) ++ c :: l.drop (k + 1) := by
    have e1 := (List.take_append_drop (k - f) (l.drop f)).symm
    rw [List.drop_drop, show f + (k - f) = k by omega, List.drop_eq_getElem_cons hk, hx] at e1
    exact e1
  refine ⟨?_, by simp, by simp; omega, Nat.le_refl _, hk⟩
  have e2 : splitB c (l.drop f) = (l.drop f).take (k - f) :: splitB c (l.drop (k + 1)) := by
    have e3 := split_word_at h2 (l.drop (k + 1))
    rw [← e] at e3
    exact e3
  rw [h1, e2]
  simp
theorem CutAt.last {c : UInt8} {l : Bytes} {ws : List Bytes} {f : Nat} (h : CutAt c l ws f l.length) : splitB c l = ws ++ [l.drop f] := by
  obtain ⟨h1, h2, h3, h4, h5⟩ := h
  rw [h1, split_word]
  rw [List.take_of_length_le (by simp)] at h2
  exact h2

end Go.Proofs.Ytfbbkiibhdgojaa
namespace Go.Proofs.Ytfbbkiibhdgojaa
open Go.RowKit

def wordA (ws : List Bytes) (i : Nat) : Bytes := ws.getD i []
/-- a slice of the words ws, at a -/
def StrsAt (w : World) (a : Option Addr) (ws : List Bytes) : Prop := ws.length = 0 ∨ ∃ b o, a = some ⟨b, o, none⟩ ∧ b < w.heap.size ∧ ∀ i, i < ws.length → w.cell? ⟨b, o + i, none⟩ = some (strV (wordA ws i))
theorem StrsAt.below {w w' : World} {a : Option Addr} {ws : List Bytes} (h : StrsAt w a ws) (hb : Below w.heap.size w w') : StrsAt w' a ws := by
  rcases h with h | ⟨b, o, e, hlt, hc⟩
  · exact .inl h
  · exact .inr ⟨b, o, e, Nat.lt_of_lt_of_le hlt hb.size, fun i hi => (hb.cell (p := ⟨b, o + i, none⟩) hlt).trans (hc i hi)⟩
theorem StrsAt.init {w : World} {a : Option Addr} {ws : List Bytes} (h : StrsAt w a ws) : StrsAt w a ws.dropLast := by
  rcases h with h | ⟨b, o, e, hlt, hc⟩
  · exact .inl (by simp [h])
  · refine .inr ⟨b, o, e, hlt, fun i hi => ?_⟩
    rw [List.length_dropLast] at hi
    rw [hc i (by omega)]
    congr 2
    unfold wordA
    simp only [List.getD]
    rw [List.getElem?_dropLast, if_pos (by omega)]
theorem WordsAt.view {base : Nat} {w : World} {v : Value} {ws : List Bytes} (h : WordsAt base w v ws) (h0 : 0 < ws.length) : ∃ b cap, v = .slice (some ⟨b, 0, none⟩) ws.length cap ∧ ws.length ≤ cap ∧ cap ≤ maxLen ∧ base ≤ b ∧ StrsAt w (some ⟨b, 0, none⟩) ws := by
  have hc := h.2
  rcases hc with ⟨_, h1⟩ | ⟨g, cap, cur, hv, hb, hg, h1, h2, _⟩
  · omega
  · refine ⟨g, cap, hv, h1, h2, hb, .inr ⟨g, 0, rfl, (Array.getElem?_eq_some_iff.1 hg).1, fun i hi => ?_⟩⟩
    have := World.ownsRow.cells h (g := g) (by rw [hv]; rfl) i (strV (wordA ws i)) (by
      rw [List.getElem?_map, List.getElem?_eq_getElem hi]
      simp [wordA, List.getD, List.getElem?_eq_getElem hi])
    rw [add_none] at this
    exact this
theorem split_len (c : UInt8) : ∀ l : Bytes, (splitB c l).length ≤ l.length + 1
  | [] => by simp [splitB]
  | x :: l => by
    have ih := split_len c l
    by_cases hx : x = c
    · rw [hx, split_at]; simp; omega
    · obtain ⟨w, ws, e⟩ := split_cons c l
      rw [split_other hx, e]
      rw [e] at ih
      simp [preHead] at ih ⊢
      omega
theorem word_empty {l : Bytes} (h : l ≠ []) : l.isEmpty = false := by
  cases l with
  | nil => exact absurd rfl h
  | cons a t => rfl

theorem lines_cases (l : Bytes) : (wordA (splitB 10 l) ((splitB 10 l).length - 1) = [] ∧ linesB l = (splitB 10 l).dropLast) ∨ (wordA (splitB 10 l) ((splitB 10 l).length - 1) ≠ [] ∧ linesB l = splitB 10 l) := by
  have hne := split_ne 10 l
  have hg : (splitB 10 l).getLast? = some (wordA (splitB 10 l) ((splitB 10 l).length - 1)) := by
    have h0 := List.length_pos_iff.2 hne
    rw [List.getLast?_eq_getElem?]
    simp [wordA, List.getD, List.getElem?_eq_getElem (show (splitB 10 l).length - 1 < (splitB 10 l).length by omega)]
  unfold linesB
  rw [hg]
  by_cases h : wordA (splitB 10 l) ((splitB 10 l).length - 1) = []
  · exact .inl ⟨h, by rw [h, if_pos rfl]⟩
  · exact .inr ⟨h, by rw [if_neg (fun e => h (by simpa using e))]⟩

end Go.Proofs.Ytfbbkiibhdgojaa
namespace Go.Proofs.Ytfbbkiibhdgojaa
open Go.RowKit

theorem split_short (c : UInt8) : ∀ (l : Bytes) (w : Bytes), w ∈ splitB c l → w.length ≤ l.length
  | [], w, h => by simp [splitB] at h; rw [h]; simp
  | x :: l, w, h => by
    by_cases hx : x = c
    · rw [hx, split_at] at h
      rcases List.mem_cons.1 h with rfl | h
      · simp
      · have := split_short c l w h; simp; omega
    · rw [split_other hx] at h
      obtain ⟨v, vs, e⟩ := split_cons c l
      rw [e] at h
      simp [preHead] at h
      rcases h with rfl | h
      · have := split_short c l v (by rw [e]; simp)
        simp; omega
      · have := split_short c l w (by rw [e]; simp [h])
        simp; omega
theorem word_mem {ws : List Bytes} {i : Nat} (h : i < ws.length) : wordA ws i ∈ ws := by
  unfold wordA
  simp [List.getD, List.getElem?_eq_getElem h]
theorem word_short {c : UInt8} {l : Bytes} {i : Nat} (h : i < (splitB c l).length) : (wordA (splitB c l) i).length ≤ l.length := split_short c l _ (word_mem h)

theorem ports_snoc {p : Port} {x : Bytes} (hx : portB x = some p) : ∀ {l : List Bytes} {qs : List Port}, portsB l = some qs → portsB (l ++ [x]) = some (qs ++ [p])
  | [], qs, h => by
    have : qs = [] := by simpa [portsB] using h.symm
    rw [this]
    simp [portsB, hx]
  | y :: l, qs, h => by
    unfold portsB at h
    split at h
    · rename_i q rs hq hr
      have e : q :: rs = qs := by simpa using h
      have := ports_snoc hx hr
      rw [List.cons_append, portsB, hq, this, ← e]
      rfl
    · cases h
theorem ports_bad {x : Bytes} (hx : portB x = none) : ∀ {l : List Bytes}, x ∈ l → portsB l = none
  | [], h => by simp at h
  | y :: l, h => by
    unfold portsB
    rcases List.mem_cons.1 h with rfl | h
    · rw [hx]
    · rw [ports_bad hx h]
      split
      · rename_i h1 h2; cases h2
      · rfl
theorem num_of {l : Bytes} (h : numK l = true) : ∃ n : Nat, numB l = some n ∧ numI l = n ∧ n < 1000000 := by
  unfold numK at h
  obtain ⟨n, hn⟩ := Option.isSome_iff_exists.1 h
  exact ⟨n, hn, by unfold numI; rw [hn], num_lt hn⟩
theorem num_off {l : Bytes} (h : numK l = false) : numB l = none := by
  unfold numK at h
  cases hn : numB l with
  | none => rfl
  | some n => rw [hn] at h; cases h
theorem two_words {xs : List Bytes} (h : xs.length = 2) : xs = [wordA xs 0, wordA xs 1] := by
  match xs, h with
  | [a, b], _ => rfl
theorem port_two {x : Bytes} (h : (splitB 47 x).length = 2) : portB x = match numB (wordA (splitB 47 x) 0), numB (wordA (splitB 47 x) 1) with
    | some t, some w => some (t, w)
    | _, _ => none := by
  unfold portB
  rw [two_words h]
  rfl
theorem port_not {x : Bytes} (h : (splitB 47 x).length ≠ 2) : portB x = none := by
  unfold portB
  split
  · rename_i a b e
    rw [e] at h
    exact absurd rfl h
  · rfl
theorem line_short {l : Bytes} (h : (splitB 32 l).length < 2) : lineB l = none := by
  unfold lineB
  split
  · rename_i k i ps e
    rw [e] at h
    simp at h
    omega
  · rfl
theorem line_of {l : Bytes} (h : 2 ≤ (splitB 32 l).length) : lineB l = if wordA (splitB 32 l) 0 = nodeW then match numB (wordA (splitB 32 l) 1), portsB ((splitB 32 l).drop 2) with
      | some id, some p => some (id, p)
      | _, _ => none
    else none := by
  unfold lineB
  match hs : splitB 32 l, h with
  | k :: i :: ps, _ => rfl

def linkCells (ps : List Port) : List Value := ps.flatMap fun p => [.int .i64 (p.1 : Int), .int .i64 (p.2 : Int)]
theorem linkCells_len : ∀ ps : List Port, (linkCells ps).length = 2 * ps.length
  | [] => rfl
  | p :: ps => by
    have := linkCells_len ps
    unfold linkCells at this ⊢
    simp [List.flatMap_cons, this]
    omega
/-- the row of the links ps, that the call owns -/
def LinkRow (base : Nat) (w : World) (v : Value) (ps : List Port) : Prop := w.ownsRow base 41 2 v ps.length (linkCells ps)
theorem infoLink : (Try.prog.info? 41).map (fun i => (i.zero, i.size, i.bytes)) = some (some (.agg #[.int .i64 0, .int .i64 0]), 2, 16) := by kernel_rfl

theorem LinkRow.mono {B B' : Nat} {w : World} {v : Value} {ps : List Port} (h : LinkRow B w v ps) (hB : B' ≤ B) : LinkRow B' w v ps := by
  refine ⟨h.1, ?_⟩
  rcases h.2 with h1 | ⟨g, cap, cur, e, hb, rest⟩
  · exact .inl h1
  · exact .inr ⟨g, cap, cur, e, Nat.le_trans hB hb, rest⟩
def NodeSays (base : Nat) (w : World) (l : Bytes) (e : Ending) : Prop :=
  (lineB l = none ∧ e = .returned (.tuple #[.int .i64 0, .slice none 0 0, .bool false])) ∨
  ∃ (id : Nat) (ps : List Port) (v : Value), lineB l = some (id, ps) ∧ e = .returned (.tuple #[.int .i64 (id : Int), v, .bool true]) ∧ LinkRow base w v ps

theorem strs_cell {w : World} {b : Nat} {ws : List Bytes} (h : StrsAt w (some ⟨b, 0, none⟩) ws) {i : Nat} (hi : i < ws.length) : w.cell? ⟨b, i, none⟩ = some (.string ⟨(wordA ws i).toArray⟩) := by
  rcases h with h | ⟨b', o, e, _, hc⟩
  · omega
  · injection e with e
    injection e with e1 e2
    subst e1
    subst e2
    have := hc i hi
    rw [Nat.zero_add] at this
    exact this
theorem new_cells (w : World) (cs : Array Value) (t : TypeId) (j : Nat) (u : Value) (h : cs.toList[j]? = some u) : (w.alloc (.cells cs t)).cell? ((⟨w.heap.size, 0, none⟩ : Addr).add j) = some u := by
  rw [add_none, Nat.zero_add, World.cell?_alloc_new]
  simpa using h
theorem ret_node {a c : Int} {u v : Value} {b d : Bool} (h : a = c) (h2 : b = d) (h3 : u = v) : Ending.returned (.tuple #[.int .i64 a, u, .bool b]) = .returned (.tuple #[.int .i64 c, v, .bool d]) := by rw [h, h2, h3]

end Go.Proofs.Ytfbbkiibhdgojaa
namespace Go.Proofs.Ytfbbkiibhdgojaa
open Go.RowKit

theorem ret_str {a b : Bytes} (h : a = b) : Ending.returned (.string ⟨a.toArray⟩) = .returned (.string ⟨b.toArray⟩) := by rw [h]
theorem dec_le {n : Nat} (h : n < 1000000) : (decB n).length ≤ 6 := (dec_ok h).2.1

end Go.Proofs.Ytfbbkiibhdgojaa
namespace Go.Proofs.Ytfbbkiibhdgojaa
open Go.RowKit

/-- the nodes that a graph's text has -/
def portsOf (xs : List (Int × Int)) : List Port := xs.map fun x => (x.1.toNat, x.2.toNat)
def nodesOf (G : Gr) : List Node := (List.range G.ps.length).map fun v => ((idA G.ids v).toNat, portsOf (rowA G.ps v))
/-- the text of the first v nodes -/
def fmtUpto (G : Gr) (v : Nat) : Bytes := fmtText ((List.range v).map fun v => ((idA G.ids v).toNat, portsOf (rowA G.ps v)))
/-- the line of node v as far as its first i ports -/
def lineUpto (G : Gr) (v i : Nat) : Bytes := nodeW ++ 32 :: (decB (idA G.ids v).toNat ++ ((portsOf (rowA G.ps v)).take i).flatMap fun p => 32 :: fmtPort p)
theorem join_flat : ∀ (w : Bytes) (ws : List Bytes), joinB 32 (w :: ws) = w ++ ws.flatMap fun x => 32 :: x
  | w, [] => by simp [joinB]
  | w, v :: ws => by
    rw [joinB, join_flat v ws, List.flatMap_cons]
    simp
theorem line_whole (G : Gr) (v : Nat) : lineUpto G v (rowA G.ps v).length = fmtLine ((idA G.ids v).toNat, portsOf (rowA G.ps v)) := by
  unfold lineUpto fmtLine
  rw [join_flat, List.flatMap_cons, List.flatMap_map, List.take_of_length_le (by simp [portsOf])]
  simp
theorem fmt_succ (G : Gr) (v : Nat) : fmtUpto G (v + 1) = fmtUpto G v ++ (fmtLine ((idA G.ids v).toNat, portsOf (rowA G.ps v)) ++ [10]) := by
  unfold fmtUpto fmtText
  rw [List.range_succ, List.map_append, List.flatMap_append]
  simp
theorem line_succ (G : Gr) (v i : Nat) (h : i < (rowA G.ps v).length) : lineUpto G v (i + 1) = lineUpto G v i ++ 32 :: (decB (toA (rowA G.ps v) i).toNat ++ 47 :: decB (wtA (rowA G.ps v) i).toNat) := by
  unfold lineUpto
  have h2 : i < (portsOf (rowA G.ps v)).length := by simpa [portsOf] using h
  rw [List.take_succ_eq_append_getElem h2, List.flatMap_append]
  simp [portsOf, fmtPort, toA, wtA, List.getD, List.getElem?_eq_getElem h]
theorem port_len (p : Port) (h : PortSmall p) : (fmtPort p).length ≤ 13 := by
  have h1 := dec_le h.1
  have h2 := dec_le h.2
  unfold fmtPort
  simp
  omega
theorem flat_len : ∀ {ps : List Port}, (∀ p ∈ ps, PortSmall p) → (ps.flatMap fun p => 32 :: fmtPort p).length ≤ 14 * ps.length
  | [], _ => by simp
  | p :: ps, h => by
    have h1 := port_len p (h p (by simp))
    have h2 := flat_len (ps := ps) (fun q hq => h q (by simp [hq]))
    rw [List.flatMap_cons, List.length_append]
    simp only [List.length_cons]
    omega
theorem ports_small {G : Gr} (hV : ValidG G) {v : Nat} (hv : v < G.ps.length) : ∀ p ∈ portsOf (rowA G.ps v), PortSmall p := by
  intro p hp
  obtain ⟨x, hx, rfl⟩ := List.mem_map.1 hp
  obtain ⟨i, hi, rfl⟩ := List.getElem_of_mem hx
  have h := hV.links v hv i hi
  have := hV.le
  unfold LinkOk at h
  have e1 : toA (rowA G.ps v) i = ((rowA G.ps v)[i]).1 := by simp [toA, List.getD, List.getElem?_eq_getElem hi]
  have e2 : wtA (rowA G.ps v) i = ((rowA G.ps v)[i]).2 := by simp [wtA, List.getD, List.getElem?_eq_getElem hi]
  rw [e1, e2] at h
  unfold PortSmall
  show _ ∧ _
  omega
theorem line_len {G : Gr} (hV : ValidG G) {v i : Nat} (hv : v < G.ps.length) : (lineUpto G v i).length ≤ 400 := by
  have h1 := hV.id v hv
  unfold IdOk at h1
  have h2 := dec_le (n := (idA G.ids v).toNat) (by omega)
  have h3 := flat_len (ps := (portsOf (rowA G.ps v)).take i) (fun p hp => ports_small hV hv p (List.mem_of_mem_take hp))
  have h4 := (hV.links v hv).len hv
  have h5 := hV.le
  have h6 : ((portsOf (rowA G.ps v)).take i).length ≤ (rowA G.ps v).length := by
    rw [List.length_take]
    simp [portsOf]
    omega
  unfold lineUpto nodeW
  simp only [List.length_append, List.length_cons, List.length_nil]
  omega
theorem fmt_len {G : Gr} (hV : ValidG G) : ∀ v, v ≤ G.ps.length → (fmtUpto G v).length ≤ 401 * v
  | 0, _ => by simp [fmtUpto, fmtText]
  | v + 1, hv => by
    have h1 := fmt_len hV v (by omega)
    have h2 := line_len hV (v := v) (i := (rowA G.ps v).length) (by omega)
    rw [line_whole] at h2
    rw [fmt_succ]
    simp only [List.length_append, List.length_cons, List.length_nil]
    omega
theorem small_nodes {G : Gr} (hV : ValidG G) : ∀ x ∈ nodesOf G, NodeSmall x := by
  intro x hx
  obtain ⟨v, hv, rfl⟩ := List.mem_map.1 hx
  have hv : v < G.ps.length := by simpa using hv
  have h1 := hV.id v hv
  unfold IdOk at h1
  exact ⟨by show (idA G.ids v).toNat < _; omega, ports_small hV hv⟩

noncomputable def formatS (G : Gr) : Bytes := if validB G then fmtText (nodesOf G) else []
noncomputable def formatE (G : Gr) : Int := if validB G then 0 else 1
theorem ret_fmt {a b : Bytes} {c d : Int} (h : a = b) (h2 : c = d) : Ending.returned (.tuple #[.string ⟨a.toArray⟩, .int .i64 c]) = .returned (.tuple #[.string ⟨b.toArray⟩, .int .i64 d]) := by rw [h, h2]

end Go.Proofs.Ytfbbkiibhdgojaa
namespace Go.Proofs.Ytfbbkiibhdgojaa

/-- the graph that a text's nodes are -/
def grOf (xs : List Node) : Gr := ⟨xs.map fun x => (x.1 : Int), xs.map fun x => x.2.map fun p => ((p.1 : Int), (p.2 : Int))⟩
theorem grOf_len (xs : List Node) : (grOf xs).ps.length = xs.length ∧ (grOf xs).ids.length = xs.length := by simp [grOf]
theorem grOf_id {xs : List Node} {v : Nat} (h : v < xs.length) : idA (grOf xs).ids v = (xs[v].1 : Int) := by
  simp [grOf, idA, List.getD, List.getElem?_eq_getElem h]
theorem grOf_row {xs : List Node} {v : Nat} (h : v < xs.length) : rowA (grOf xs).ps v = xs[v].2.map fun p => ((p.1 : Int), (p.2 : Int)) := by
  simp [grOf, rowA, List.getD, List.getElem?_eq_getElem h]
theorem portsOf_back (ps : List Port) : portsOf (ps.map fun p => ((p.1 : Int), (p.2 : Int))) = ps := by
  unfold portsOf
  rw [List.map_map]
  conv => rhs; rw [← List.map_id ps]
  apply List.map_congr_left
  intro p _
  simp
theorem nodes_gr (xs : List Node) : nodesOf (grOf xs) = xs := by
  apply List.ext_getElem
  · simp [nodesOf, grOf]
  · intro v h1 h2
    simp only [nodesOf, List.getElem_map, List.getElem_range]
    rw [grOf_id h2, grOf_row h2, portsOf_back]
    simp
theorem gr_nodes {G : Gr} (hV : ValidG G) : grOf (nodesOf G) = G := by
  have hl : (nodesOf G).length = G.ps.length := by simp [nodesOf]
  have h1 : (grOf (nodesOf G)).ids = G.ids := by
    refine ids_ext (by rw [(grOf_len _).2, hl, hV.ids]) (fun v hv => ?_)
    rw [(grOf_len _).2, hl] at hv
    rw [grOf_id (by omega)]
    have := hV.id v hv
    unfold IdOk at this
    simp only [nodesOf, List.getElem_map, List.getElem_range]
    omega
  have h2 : (grOf (nodesOf G)).ps = G.ps := by
    refine ports_ext (by rw [(grOf_len _).1, hl]) (fun v hv => ?_)
    rw [(grOf_len _).1, hl] at hv
    rw [grOf_row (by omega)]
    simp only [nodesOf, List.getElem_map, List.getElem_range]
    refine row_ext (by simp [portsOf]) (fun i hi => ?_)
    have hi2 : i < (rowA G.ps v).length := by simpa [portsOf] using hi
    have hok := hV.links v hv i hi2
    unfold LinkOk at hok
    have e1 : toA (rowA G.ps v) i = ((rowA G.ps v)[i]).1 := by simp [toA, List.getD, List.getElem?_eq_getElem hi2]
    have e2 : wtA (rowA G.ps v) i = ((rowA G.ps v)[i]).2 := by simp [wtA, List.getD, List.getElem?_eq_getElem hi2]
    have e3 : ((portsOf (rowA G.ps v)).map fun p => ((p.1 : Int), (p.2 : Int)))[i]? = some ((((rowA G.ps v)[i]).1.toNat : Int), (((rowA G.ps v)[i]).2.toNat : Int)) := by
      simp [portsOf, List.getElem?_eq_getElem hi2]
    have e4 : toA ((portsOf (rowA G.ps v)).map fun p => ((p.1 : Int), (p.2 : Int))) i = (((rowA G.ps v)[i]).1.toNat : Int) := by unfold toA; rw [List.getD, e3]; rfl
    have e5 : wtA ((portsOf (rowA G.ps v)).map fun p => ((p.1 : Int), (p.2 : Int))) i = (((rowA G.ps v)[i]).2.toNat : Int) := by unfold wtA; rw [List.getD, e3]; rfl
    rw [e4, e5, e1, e2]
    rw [e1, e2] at hok
    omega
  cases hA : grOf (nodesOf G) with
  | mk a b =>
    rw [hA] at h1 h2
    cases G
    simp at h1 h2
    rw [h1, h2]
theorem nodesOf_ne {G : Gr} (hV : ValidG G) : nodesOf G ≠ [] := by
  intro e
  have := congrArg List.length e
  have h1 := hV.pos
  simp [nodesOf] at this
  rw [this] at h1
  simp at h1
/-- different valid graphs have different texts -/
theorem format_inj {G K : Gr} (hG : ValidG G) (hK : ValidG K) : formatS G = formatS K ↔ G = K := by
  constructor
  · intro h
    unfold formatS at h
    rw [validB_mk hG, validB_mk hK] at h
    have h2 := fmtText_inj (nodesOf_ne hG) (nodesOf_ne hK) (small_nodes hG) (small_nodes hK) h
    rw [← gr_nodes hG, ← gr_nodes hK, h2]
  · intro h
    rw [h]
theorem sameB_eq {G K : Gr} : sameB G K = true ↔ G = K := by
  unfold sameB
  rw [decide_eq_true_iff]
  constructor
  · intro ⟨h1, h2⟩
    cases G
    cases K
    simp at h1 h2
    rw [h1, h2]
  · intro h
    rw [h]
    exact ⟨rfl, rfl⟩
/-- what is written is read back, whole and without the last line feed -/
theorem text_format {G : Gr} (hG : ValidG G) : textB (formatS G) = .inr (nodesOf G) ∧ textB (formatS G).dropLast = .inr (nodesOf G) := by
  unfold formatS
  rw [validB_mk hG]
  exact ⟨text_fmt (nodesOf_ne hG) (small_nodes hG), text_fmt_short (nodesOf_ne hG) (small_nodes hG)⟩
/-- what is read is written back -/
theorem format_text {t : Bytes} {xs : List Node} (h : textB t = .inr xs) (hV : ValidG (grOf xs)) : formatS (grOf xs) = t ∨ formatS (grOf xs) = t ++ [10] := by
  unfold formatS
  rw [validB_mk hV, if_pos rfl, nodes_gr]
  exact (fmt_text h).1
end Go.Proofs.Ytfbbkiibhdgojaa
namespace Go.Proofs.Ytfbbkiibhdgojaa
open Go.RowKit

theorem results_ctt {fn : Func} {p u v : Tmp} {ty : TypeId} (h : fn.results = #[.cell p ty, .tmp u, .tmp v]) (tmps : Array Value) (P : Program) (w : World) :
    (results fn tmps).run P w =
      ((asAddr (tmps.getD p undef)).run P w).andThen fun a w₁ => ((loadVar ty a).run P w₁).andThen fun x w₂ => .ok (.tuple #[x, tmps.getD u undef, tmps.getD v undef]) w₂ := by
  simp only [results, h]
  simp [Sem.run_bind, Result.andThen]

end Go.Proofs.Ytfbbkiibhdgojaa
