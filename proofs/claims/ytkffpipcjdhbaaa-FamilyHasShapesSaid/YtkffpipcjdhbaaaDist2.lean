/- Distances in a plain graph: a metric; eccentricities. -/
import Derived.Test.YtkffpipcjdhbaaaLaw1
namespace Go.Proofs.Ytkffpipcjdhbaaa

theorem Reach.step_front {G : Gr} {s v : Nat} : ∀ {k t : Nat}, Adj G s v → Reach G v k t → Reach G s (k + 1) t := by
  intro k
  induction k with
  | zero => intro t ha h; rw [show t = v from h]; exact .inr ⟨s, rfl, ha⟩
  | succ k ih =>
    intro t ha h
    rcases h with h | ⟨u, hu, h⟩
    · exact .inl (ih ha h)
    · exact .inr ⟨u, ih ha hu, h⟩
theorem Adj.symm {G : Gr} (hG : ValidG G) {u v : Nat} (hu : u < G.ps.length) (h : Adj G u v) : Adj G v u := by
  obtain ⟨i, hi, e⟩ := h
  have hm := hG.mate u hu i hi
  unfold MateOk at hm
  rw [e, Int.toNat_natCast] at hm
  rcases portF_cases (rowA G.ps v) u with ⟨hp, _⟩ | ⟨k, hk, hp, hto, _⟩
  · rw [hp] at hm; omega
  · exact ⟨k, hk, hto⟩
theorem Reach.symm {G : Gr} (hG : ValidG G) {s t : Nat} (hs : s < G.ps.length) : ∀ {k : Nat}, Reach G s k t → Reach G t k s := by
  intro k
  induction k generalizing t with
  | zero => intro h; exact (show t = s from h).symm
  | succ k ih =>
    intro h
    rcases h with h | ⟨u, hu, ha⟩
    · exact .inl (ih h)
    · exact Reach.step_front (Adj.symm hG (hu.lt hG hs) ha) (ih hu)
theorem Reach.trans {G : Gr} {a b c : Nat} {k m : Nat} (h : Reach G a k b) : Reach G b m c → Reach G a (k + m) c := by
  induction m generalizing c with
  | zero => intro h2; rw [show c = b from h2]; exact h
  | succ m ih =>
    intro h2
    rcases h2 with h2 | ⟨u, hu, ha⟩
    · exact .inl (ih h2)
    · exact .inr ⟨u, ih hu, ha⟩

theorem distF_symm {G : Gr} (hG : ValidG G) {s t : Nat} (hs : s < G.ps.length) (ht : t < G.ps.length) : distF G s t = distF G t s := by
  refine distF_eq ?_
  rcases distF_is G t s with ⟨k, e, h1, h2⟩ | ⟨e, h1⟩
  · exact .inl ⟨k, e, h1.symm hG ht, fun m hm => h2 m (hm.symm hG hs)⟩
  · exact .inr ⟨e, fun m hm => h1 m (hm.symm hG hs)⟩
theorem distF_tri {G : Gr} {a b c : Nat} (h1 : 0 ≤ distF G a b) (h2 : 0 ≤ distF G b c) : 0 ≤ distF G a c ∧ distF G a c ≤ distF G a b + distF G b c := by
  rcases distF_is G a b with ⟨k, e1, r1, _⟩ | ⟨e1, _⟩
  · rcases distF_is G b c with ⟨m, e2, r2, _⟩ | ⟨e2, _⟩
    · have r3 := r1.trans r2
      rcases distF_is G a c with ⟨j, e3, _, hj⟩ | ⟨e3, hno⟩
      · have := hj _ r3; omega
      · exact absurd r3 (hno _)
    · omega
  · omega
theorem distF_low (G : Gr) (a b : Nat) : -1 ≤ distF G a b := by
  rcases distF_is G a b with ⟨k, e, _⟩ | ⟨e, _⟩ <;> omega
theorem conn_all {G : Gr} (h : connB G = true) {a b : Nat} (ha : a < G.ps.length) (hb : b < G.ps.length) : 0 ≤ distF G a b := by
  obtain ⟨hG, hc⟩ := connB_iff.1 h
  have h0 := hG.pos
  have h1 := hc a ha
  have h2 := hc b hb
  have h3 := distF_low G 0 a
  have h4 := distF_low G 0 b
  have h5 := distF_symm hG (s := a) (t := 0) ha (by omega)
  exact (distF_tri (a := a) (b := 0) (c := b) (by omega) (by omega)).1

theorem dist_chain {G : Gr} (hG : ValidG G) {s : Nat} (hs : s < G.ps.length) : ∀ (k v : Nat), distF G s v = k → ∃ l : List Nat, l.length = k + 1 ∧ l.Nodup ∧ ∀ x ∈ l, x < G.ps.length ∧ distF G s x ≤ k := by
  intro k
  induction k with
  | zero =>
    intro v hv
    rcases distF_is G s v with ⟨m, e, h1, _⟩ | ⟨e, _⟩
    · exact ⟨[v], rfl, by simp, fun x hx => by rw [List.mem_singleton.1 hx]; exact ⟨h1.lt hG hs, by omega⟩⟩
    · omega
  | succ k ih =>
    intro v hv
    rcases distF_is G s v with ⟨m, e, h1, h2⟩ | ⟨e, _⟩
    · have hm : m = k + 1 := by omega
      subst hm
      rcases h1 with h1 | ⟨u, hu, ha⟩
      · have := h2 k h1; omega
      · have hdu : distF G s u = k := by
          rcases distF_is G s u with ⟨j, e2, r, hj⟩ | ⟨e2, hno⟩
          · have := hj k hu
            have := h2 (j + 1) (.inr ⟨u, r, ha⟩)
            omega
          · exact absurd hu (hno k)
        obtain ⟨l, hl, hd, hx⟩ := ih u hdu
        have hvl : v < G.ps.length := (ha.lt hG (hu.lt hG hs)).1
        refine ⟨v :: l, by simp [hl], List.nodup_cons.2 ⟨fun hm => by have := (hx v hm).2; omega, hd⟩, fun x hm => ?_⟩
        rcases List.mem_cons.1 hm with rfl | hm
        · exact ⟨hvl, by omega⟩
        · have := hx x hm; exact ⟨this.1, by omega⟩
    · omega
theorem distF_lt {G : Gr} (hG : ValidG G) {s v : Nat} (hs : s < G.ps.length) : distF G s v < G.ps.length := by
  have hp := hG.pos
  rcases distF_is G s v with ⟨k, e, _, _⟩ | ⟨e, _⟩
  · obtain ⟨l, hl, hd, hx⟩ := dist_chain hG hs k v e
    have := nodup_len G.ps.length l hd fun x h => (hx x h).1
    omega
  · omega
theorem maxF_lt {f : Nat → Int} {k : Nat} {b : Int} (h : ∀ i, i ≤ k → f i < b) : maxF f k < b := by
  obtain ⟨i, hi, e⟩ := maxF_at f k
  rw [e]; exact h i hi
theorem diamF_lt {G : Gr} (h : connB G = true) : diamF G < G.ps.length := by
  have hG := (connB_iff.1 h).1
  have hp := hG.pos
  unfold diamF
  rw [if_pos h]
  exact maxF_lt fun i hi => maxF_lt fun j hj => distF_lt hG (by omega)

/-- the eccentricity of node v, as a plain number -/
noncomputable def eF (G : Gr) (v : Nat) : Int := maxF (distF G v) (G.ps.length - 1)
theorem eF_bounds {G : Gr} (h : connB G = true) {v : Nat} (hv : v < G.ps.length) : 0 ≤ eF G v ∧ eF G v ≤ diamF G ∧ diamF G ≤ 2 * eF G v := by
  have hd : diamF G = maxF (eF G) (G.ps.length - 1) := by unfold diamF; rw [if_pos h]; rfl
  have h0 : distF G v v = 0 := dist_self G v
  have h1 : distF G v v ≤ eF G v := maxF_ge (f := distF G v) (by omega)
  have h2 : eF G v ≤ diamF G := by rw [hd]; exact maxF_ge (f := eF G) (by omega)
  refine ⟨by omega, h2, ?_⟩
  obtain ⟨u, hu, e⟩ := maxF_at (eF G) (G.ps.length - 1)
  obtain ⟨t, ht, e2⟩ := maxF_at (distF G u) (G.ps.length - 1)
  have hG := (connB_iff.1 h).1
  have h3 := distF_symm hG (s := u) (t := v) (by omega) hv
  have h4 := conn_all h (a := u) (b := v) (by omega) hv
  have h5 := conn_all h (a := v) (b := t) hv (by omega)
  have h6 := (distF_tri (a := u) (b := v) (c := t) h4 h5).2
  have h7 : distF G v u ≤ eF G v := maxF_ge (f := distF G v) (by omega)
  have h8 : distF G v t ≤ eF G v := maxF_ge (f := distF G v) (by omega)
  have h9 : eF G u = distF G u t := e2
  omega
theorem eF_attained {G : Gr} (h : connB G = true) : ∃ v, v < G.ps.length ∧ eF G v = diamF G := by
  have hd : diamF G = maxF (eF G) (G.ps.length - 1) := by unfold diamF; rw [if_pos h]; rfl
  obtain ⟨u, hu, e⟩ := maxF_at (eF G) (G.ps.length - 1)
  have hp := (connB_iff.1 h).1.pos
  exact ⟨u, by omega, by rw [hd, e]⟩
theorem ecc_eq {G : Gr} (h : connB G = true) {v : Nat} (hv : v < G.ps.length) : eccF G v = eF G v := by
  unfold eccF
  rw [if_pos ⟨h, inB_mk (by omega)⟩, Int.toNat_natCast]
  rfl

end Go.Proofs.Ytkffpipcjdhbaaa
