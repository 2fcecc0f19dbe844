/- A graph's links are half of its ports; a connected graph has the links of a tree. No program in sight. -/
import Derived.Test.YtkffpipcjdhbaaaLinks2
import Derived.Test.YtkffpipcjdhbaaaDist2
import Derived.Test.YtkffpipcjdhbaaaGraph8
namespace Go.Proofs.Ytkffpipcjdhbaaa

/-- the ports of the first v nodes -/
def degSum (G : Gr) : Nat → Nat
  | 0 => 0
  | v + 1 => degSum G v + (rowA G.ps v).length

theorem nodup_sub : ∀ {l1 l2 : List (Nat × Nat)}, l1.Nodup → (∀ x ∈ l1, x ∈ l2) → l1.length ≤ l2.length
  | [], _, _, _ => by simp
  | a :: t, l2, hd, hs => by
    rw [List.nodup_cons] at hd
    have h1 := nodup_sub (l1 := t) (l2 := l2.erase a) hd.2 (fun x hx => by
      have hne : x ≠ a := fun e => hd.1 (e ▸ hx)
      exact (List.mem_erase_of_ne hne).2 (hs x (List.mem_cons_of_mem _ hx)))
    have h2 := hs a List.mem_cons_self
    have h3 := List.length_erase_of_mem h2
    have h4 : 0 < l2.length := List.length_pos_of_mem h2
    simp only [List.length_cons]
    omega

theorem ins_nodup {p : Nat × Nat} {L : List (Nat × Nat)} (h : L.Nodup) : (ins p L).Nodup := by
  unfold ins
  split
  · exact h
  · rename_i hm
    rw [List.nodup_append]
    exact ⟨h, by simp, fun a ha b hb e => hm (by rw [List.mem_singleton.1 hb] at e; rw [← e]; exact ha)⟩
theorem putRow_nodup {xs : List (Int × Int)} {v : Nat} {L : List (Nat × Nat)} (h : L.Nodup) : ∀ i, (putRow xs v L i).Nodup
  | 0 => h
  | i + 1 => ins_nodup (putRow_nodup h i)
theorem allLinks_nodup (G : Gr) : ∀ v, (allLinks G v).Nodup
  | 0 => List.nodup_nil
  | v + 1 => putRow_nodup (allLinks_nodup G v) _

/-- all ports, as pairs of a node and its neighbour -/
def dirs (G : Gr) : Nat → List (Nat × Nat)
  | 0 => []
  | v + 1 => dirs G v ++ (List.range (rowA G.ps v).length).map fun i => (v, (toA (rowA G.ps v) i).toNat)
theorem dirs_len (G : Gr) : ∀ v, (dirs G v).length = degSum G v
  | 0 => rfl
  | v + 1 => by simp [dirs, degSum, dirs_len G v]
theorem mem_dirs {G : Gr} {p : Nat × Nat} : ∀ {v : Nat}, p ∈ dirs G v ↔ p.1 < v ∧ ∃ i, i < (rowA G.ps p.1).length ∧ p.2 = (toA (rowA G.ps p.1) i).toNat
  | 0 => by simp [dirs]
  | v + 1 => by
    rw [dirs, List.mem_append, mem_dirs, List.mem_map]
    constructor
    · rintro (⟨h1, h2⟩ | ⟨i, hi, rfl⟩)
      · exact ⟨by omega, h2⟩
      · exact ⟨Nat.lt_succ_self v, i, by simpa using hi, rfl⟩
    · rintro ⟨h1, i, hi, h2⟩
      by_cases h : p.1 < v
      · exact .inl ⟨h, i, hi, h2⟩
      · have hv : p.1 = v := by omega
        refine .inr ⟨i, by rw [← hv]; simpa using hi, ?_⟩
        rw [← hv, ← h2]
theorem dirs_nodup {G : Gr} (hV : ValidG G) : ∀ v, v ≤ G.ps.length → (dirs G v).Nodup
  | 0, _ => List.nodup_nil
  | v + 1, hv => by
    rw [dirs, List.nodup_append]
    refine ⟨dirs_nodup hV v (by omega), ?_, ?_⟩
    · refine List.Pairwise.map _ (S := fun a b => a ≠ b) (R := fun a b => a < b ∧ b < (rowA G.ps v).length) (fun a b hab => ?_) ?_
      · have h1 := hV.links v (by omega) a (by omega)
        have h2 := hV.links v (by omega) b hab.2
        unfold LinkOk at h1 h2
        have h3 := h2.2.2.2 a hab.1
        intro e
        injection e with _ e
        omega
      · exact List.Pairwise.imp_of_mem (R := fun a b => a < b) (fun _ hb hab => ⟨hab, by simpa using hb⟩) List.pairwise_lt_range
    · intro a ha b hb e
      have h1 := (mem_dirs.1 ha).1
      obtain ⟨i, _, rfl⟩ := List.mem_map.1 hb
      rw [e] at h1
      exact absurd h1 (Nat.lt_irrefl v)

theorem dirs_adj {G : Gr} (hV : ValidG G) {p : Nat × Nat} : p ∈ dirs G G.ps.length ↔ p.1 < G.ps.length ∧ Adj G p.1 p.2 := by
  rw [mem_dirs]
  constructor
  · rintro ⟨h1, i, hi, e⟩
    have := hV.links p.1 h1 i hi
    unfold LinkOk at this
    exact ⟨h1, i, hi, by omega⟩
  · rintro ⟨h1, i, hi, e⟩
    exact ⟨h1, i, hi, by omega⟩
theorem links_adj {G : Gr} (hV : ValidG G) {p : Nat × Nat} : p ∈ allLinks G G.ps.length ↔ p.1 < p.2 ∧ p.1 < G.ps.length ∧ Adj G p.1 p.2 := by
  rw [mem_allLinks]
  constructor
  · rintro ⟨u, hu, j, hj, rfl⟩
    have h := hV.links u hu j hj
    unfold LinkOk at h
    obtain ⟨d, hd⟩ : ∃ d : Nat, toA (rowA G.ps u) j = d := ⟨(toA (rowA G.ps u) j).toNat, by omega⟩
    have ha : Adj G u d := ⟨j, hj, hd⟩
    rw [hd] at h ⊢
    rw [Int.toNat_natCast]
    unfold lnk
    rcases Nat.lt_or_ge u d with h1 | h1
    · rw [Nat.min_eq_left (Nat.le_of_lt h1), Nat.max_eq_right (Nat.le_of_lt h1)]
      exact ⟨h1, hu, ha⟩
    · rw [Nat.min_eq_right h1, Nat.max_eq_left h1]
      exact ⟨by show d < u; omega, by show d < _; omega, ha.symm hV hu⟩
  · rintro ⟨h1, h2, j, hj, e⟩
    refine ⟨p.1, h2, j, hj, ?_⟩
    rw [e, Int.toNat_natCast]
    unfold lnk
    rw [Nat.min_eq_left (Nat.le_of_lt h1), Nat.max_eq_right (Nat.le_of_lt h1)]

theorem swap_nodup {l : List (Nat × Nat)} (h : l.Nodup) : (l.map fun p => (p.2, p.1)).Nodup :=
  List.Pairwise.map _ (S := fun a b => a ≠ b) (R := fun a b => a ≠ b) (fun a b hab e => hab (by
    obtain ⟨a1, a2⟩ := a
    obtain ⟨b1, b2⟩ := b
    simp at e ⊢
    exact ⟨e.2, e.1⟩)) h

theorem len_split (f : Nat × Nat → Bool) : ∀ (l : List (Nat × Nat)), l.length = (l.filter f).length + (l.filter fun p => !f p).length
  | [] => rfl
  | a :: t => by
    have := len_split f t
    cases h : f a <;> simp [h] <;> omega
/-- each link has two ports -/
theorem handshake {G : Gr} (hV : ValidG G) : degSum G G.ps.length = 2 * (allLinks G G.ps.length).length := by
  rw [← dirs_len, len_split (fun p : Nat × Nat => decide (p.1 < p.2))]
  have hd := dirs_nodup hV _ (Nat.le_refl _)
  have hL := allLinks_nodup G G.ps.length
  have hA1 := nodup_sub (l1 := (dirs G G.ps.length).filter fun p => decide (p.1 < p.2)) (l2 := allLinks G G.ps.length) (hd.filter _) (fun p hp => by
    obtain ⟨h1, h2⟩ := List.mem_filter.1 hp
    rw [dirs_adj hV] at h1
    exact (links_adj hV).2 ⟨of_decide_eq_true h2, h1⟩)
  have hA2 := nodup_sub (l2 := (dirs G G.ps.length).filter fun p => decide (p.1 < p.2)) (l1 := allLinks G G.ps.length) hL (fun p hp => by
    have h := (links_adj hV).1 hp
    exact List.mem_filter.2 ⟨(dirs_adj hV).2 h.2, decide_eq_true h.1⟩)
  have hB1 := nodup_sub (l1 := (dirs G G.ps.length).filter fun p => !decide (p.1 < p.2)) (l2 := (allLinks G G.ps.length).map fun p => (p.2, p.1)) (hd.filter _) (fun p hp => by
    obtain ⟨h1, h2⟩ := List.mem_filter.1 hp
    rw [dirs_adj hV] at h1
    have h3 := h1.2.lt hV h1.1
    have h4 : ¬ p.1 < p.2 := by simpa using h2
    refine List.mem_map.2 ⟨(p.2, p.1), (links_adj hV).2 ⟨by show p.2 < p.1; omega, h3.1, h1.2.symm hV h1.1⟩, rfl⟩)
  have hB2 := nodup_sub (l2 := (dirs G G.ps.length).filter fun p => !decide (p.1 < p.2)) (l1 := (allLinks G G.ps.length).map fun p => (p.2, p.1)) (swap_nodup hL) (fun p hp => by
    obtain ⟨q, hq, rfl⟩ := List.mem_map.1 hp
    have h := (links_adj hV).1 hq
    have h3 := h.2.2.lt hV h.2.1
    refine List.mem_filter.2 ⟨(dirs_adj hV).2 ⟨h3.1, h.2.2.symm hV h.2.1⟩, ?_⟩
    have := h.1
    simp; omega)
  rw [List.length_map] at hB1 hB2
  omega

/-- a node that is nearer to node 0 -/
theorem nearer {G : Gr} (h : connB G = true) {v : Nat} (hv : v < G.ps.length) (h0 : v ≠ 0) : ∃ u, Adj G v u ∧ distF G 0 u = distF G 0 v - 1 := by
  have hV := (connB_iff.1 h).1
  have h1 := conn_all h (a := 0) (b := v) (by omega) hv
  exact distF_near hV (by omega) (by
    have := (distF_zero (G := G) (s := 0) (v := v))
    omega)
open Classical in
noncomputable def par (G : Gr) (v : Nat) : Nat := if h : ∃ u, Adj G v u ∧ distF G 0 u = distF G 0 v - 1 then Classical.choose h else 0
theorem par_is {G : Gr} (h : connB G = true) {v : Nat} (hv : v < G.ps.length) (h0 : v ≠ 0) : Adj G v (par G v) ∧ distF G 0 (par G v) = distF G 0 v - 1 := by
  have hx := nearer h hv h0
  unfold par
  rw [dif_pos hx]
  exact Classical.choose_spec hx

theorem lnk_inj {a b c d : Nat} (h : lnk a b = lnk c d) : (a = c ∧ b = d) ∨ (a = d ∧ b = c) := by
  unfold lnk at h
  injection h with h1 h2
  omega
theorem tree_le {G : Gr} (h : connB G = true) : G.ps.length - 1 ≤ (allLinks G G.ps.length).length := by
  have hV := (connB_iff.1 h).1
  have h1 := nodup_sub (l1 := (List.range (G.ps.length - 1)).map fun i => lnk (i + 1) (par G (i + 1))) (l2 := allLinks G G.ps.length) (by
    refine List.Pairwise.map _ (S := fun a b => a ≠ b) (R := fun a b => a < b ∧ b < G.ps.length - 1) (fun a b hab e => ?_) ?_
    · have ha := par_is h (v := a + 1) (by omega) (by omega)
      have hb := par_is h (v := b + 1) (by omega) (by omega)
      rcases lnk_inj e with ⟨e1, _⟩ | ⟨e1, e2⟩
      · omega
      · rw [e2] at ha
        rw [← e1] at hb
        omega
    · exact List.Pairwise.imp_of_mem (R := fun a b => a < b) (fun _ hb hab => ⟨hab, by simpa using hb⟩) List.pairwise_lt_range) (fun x hx => by
    obtain ⟨i, hi, rfl⟩ := List.mem_map.1 hx
    have hi : i < G.ps.length - 1 := by simpa using hi
    obtain ⟨⟨j, hj, e⟩, _⟩ := par_is h (v := i + 1) (by omega) (by omega)
    exact mem_allLinks.2 ⟨i + 1, by omega, j, hj, by rw [e, Int.toNat_natCast]⟩)
  simpa using h1

/-- how many of the first v nodes have one link -/
def leaves (G : Gr) : Nat → Nat
  | 0 => 0
  | v + 1 => leaves G v + if (rowA G.ps v).length = 1 then 1 else 0
theorem leaves_sum {G : Gr} (h : ∀ v, v < G.ps.length → 1 ≤ (rowA G.ps v).length) : ∀ v, v ≤ G.ps.length → 2 * v ≤ degSum G v + leaves G v
  | 0, _ => by omega
  | v + 1, hv => by
    have h1 := leaves_sum h v (by omega)
    have h2 := h v (by omega)
    unfold degSum leaves
    split <;> omega
theorem deg_pos {G : Gr} (h : connB G = true) (h1 : 1 < G.ps.length) {v : Nat} (hv : v < G.ps.length) : 1 ≤ (rowA G.ps v).length := by
  have hV := (connB_iff.1 h).1
  obtain ⟨s, hs, hne⟩ : ∃ s, s < G.ps.length ∧ s ≠ v := by
    by_cases h0 : v = 0
    · exact ⟨1, h1, by omega⟩
    · exact ⟨0, by omega, by omega⟩
  have h2 := conn_all h hs hv
  have h3 := (distF_zero (G := G) (s := s) (v := v))
  obtain ⟨u, ⟨i, hi, _⟩, _⟩ := distF_near hV (s := s) (v := v) hs (by omega)
  omega
theorem leaves_two {G : Gr} (h : connB G = true) (h1 : 1 < G.ps.length) (hm : (allLinks G G.ps.length).length = G.ps.length - 1) : 2 ≤ leaves G G.ps.length := by
  have hV := (connB_iff.1 h).1
  have h2 := handshake hV
  have h3 := leaves_sum (G := G) (fun v hv => deg_pos h h1 hv) G.ps.length (Nat.le_refl _)
  omega
end Go.Proofs.Ytkffpipcjdhbaaa
