/- Distances in a plain graph. -/
import Derived.Test.YtkffpipcjdhbaaaMath1
namespace Go.Proofs.Ytkffpipcjdhbaaa

def Adj (G : Gr) (u v : Nat) : Prop := ∃ i, i < (rowA G.ps u).length ∧ toA (rowA G.ps u) i = v

/-- v can be reached from s over at most k links -/
def Reach (G : Gr) (s : Nat) : Nat → Nat → Prop
  | 0, v => v = s
  | k + 1, v => Reach G s k v ∨ ∃ u, Reach G s k u ∧ Adj G u v

theorem Reach.mono {G : Gr} {s v k m : Nat} (h : Reach G s k v) (hkm : k ≤ m) : Reach G s m v := by
  induction m with
  | zero => rw [show k = 0 by omega] at h; exact h
  | succ m ih =>
    rcases Nat.lt_or_ge k (m + 1) with h1 | h1
    · exact .inl (ih (by omega))
    · rw [show k = m + 1 by omega] at h; exact h

theorem Adj.lt {G : Gr} (hG : ValidG G) {u v : Nat} (hu : u < G.ps.length) (h : Adj G u v) : v < G.ps.length ∧ v ≠ u := by
  obtain ⟨i, hi, e⟩ := h
  have := hG.links u hu i hi
  unfold LinkOk at this
  omega

theorem Reach.lt {G : Gr} (hG : ValidG G) {s v k : Nat} (hs : s < G.ps.length) (h : Reach G s k v) : v < G.ps.length := by
  induction k generalizing v with
  | zero => rw [show v = s from h]; exact hs
  | succ k ih =>
    rcases h with h | ⟨u, hu, ha⟩
    · exact ih h
    · exact (ha.lt hG (ih hu)).1

/-- d is the distance of v from s; -1 if there is no way -/
def IsDist (G : Gr) (s v : Nat) (d : Int) : Prop :=
  (∃ k : Nat, d = k ∧ Reach G s k v ∧ ∀ m, Reach G s m v → k ≤ m) ∨ (d = -1 ∧ ∀ m, ¬ Reach G s m v)

theorem IsDist.unique {G : Gr} {s v : Nat} {d e : Int} (h : IsDist G s v d) (h' : IsDist G s v e) : d = e := by
  rcases h with ⟨k, rfl, h1, h2⟩ | ⟨rfl, h1⟩
  · rcases h' with ⟨m, rfl, h3, h4⟩ | ⟨rfl, h3⟩
    · have := h2 m h3; have := h4 k h1; omega
    · exact absurd h1 (h3 k)
  · rcases h' with ⟨m, rfl, h3, h4⟩ | ⟨rfl, h3⟩
    · exact absurd h3 (h1 m)
    · rfl

theorem exists_dist (G : Gr) (s v : Nat) : ∃ d, IsDist G s v d := by
  by_cases h : ∃ k, Reach G s k v
  · obtain ⟨k, hk⟩ := h
    induction k using Nat.strongRecOn with
    | ind k ih =>
      by_cases h' : ∃ j, j < k ∧ Reach G s j v
      · obtain ⟨j, hj, hj'⟩ := h'
        exact ih j hj hj'
      · exact ⟨k, .inl ⟨k, rfl, hk, fun m hm => by
          rcases Nat.lt_or_ge m k with h1 | h1
          · exact absurd ⟨m, h1, hm⟩ h'
          · exact h1⟩⟩
  · exact ⟨-1, .inr ⟨rfl, fun m hm => h ⟨m, hm⟩⟩⟩

open Classical in
noncomputable def distF (G : Gr) (s v : Nat) : Int := Classical.choose (exists_dist G s v)
theorem distF_is (G : Gr) (s v : Nat) : IsDist G s v (distF G s v) := Classical.choose_spec (exists_dist G s v)
theorem distF_eq {G : Gr} {s v : Nat} {d : Int} (h : IsDist G s v d) : distF G s v = d := (distF_is G s v).unique h

/-! ### The search: what a row of numbers and a queue say -/

/-- nodes below n that have no number yet -/
def unl (F : Nat → Int) : Nat → Nat
  | 0 => 0
  | n + 1 => unl F n + if F n < 0 then 1 else 0

theorem unl_le (F : Nat → Int) (n : Nat) : unl F n ≤ n := by
  induction n with
  | zero => exact Nat.le_refl _
  | succ n ih => unfold unl; split <;> omega

theorem unl_congr {F H : Nat → Int} {n : Nat} (h : ∀ v, v < n → F v = H v) : unl F n = unl H n := by
  induction n with
  | zero => rfl
  | succ n ih => unfold unl; rw [ih fun v hv => h v (by omega), h n (by omega)]

def upd (F : Nat → Int) (t : Nat) (x : Int) : Nat → Int := fun v => if v = t then x else F v
theorem upd_same (F : Nat → Int) (t : Nat) (x : Int) : upd F t x t = x := if_pos rfl
theorem upd_other {F : Nat → Int} {t v : Nat} {x : Int} (h : v ≠ t) : upd F t x v = F v := if_neg h

theorem unl_upd {F : Nat → Int} {t n : Nat} {x : Int} (ht : t < n) (h : F t < 0) (hx : 0 ≤ x) : unl (upd F t x) n + 1 = unl F n := by
  induction n with
  | zero => omega
  | succ n ih =>
    unfold unl
    by_cases e : n = t
    · subst e
      rw [upd_same, unl_congr (n := n) (F := upd F n x) (H := F) fun v hv => upd_other (by omega), if_neg (by omega), if_pos h]
    · rw [upd_other e]
      have := ih (by omega)
      omega

/-- the state of the search: F holds the numbers, Q the nodes that are still to be looked at -/
structure Bfs (G : Gr) (s : Nat) (F : Nat → Int) (Q : List Nat) : Prop where
  start : F s = 0
  low : ∀ v, v < G.ps.length → -1 ≤ F v
  way : ∀ v, v < G.ps.length → ∀ k : Nat, F v = k → Reach G s k v
  inQ : ∀ q ∈ Q, q < G.ps.length ∧ 0 ≤ F q
  near : ∀ v, v < G.ps.length → ∀ q ∈ Q, F v ≤ F q + 1
  sorted : Q.Pairwise fun a b => F a ≤ F b
  cap : ∀ v, v < G.ps.length → F v + 1 + unl F G.ps.length ≤ G.ps.length
  done : ∀ v, v < G.ps.length → 0 ≤ F v → v ∉ Q → ∀ t, Adj G v t → 0 ≤ F t ∧ F t ≤ F v + 1

/-- .. while node v is looked at: its first i links are done -/
structure BfsIn (G : Gr) (s : Nat) (F : Nat → Int) (Q : List Nat) (v i : Nat) : Prop where
  start : F s = 0
  low : ∀ u, u < G.ps.length → -1 ≤ F u
  way : ∀ u, u < G.ps.length → ∀ k : Nat, F u = k → Reach G s k u
  inQ : ∀ q ∈ Q, q < G.ps.length ∧ 0 ≤ F q ∧ F v ≤ F q
  here : v < G.ps.length ∧ 0 ≤ F v
  near : ∀ u, u < G.ps.length → F u ≤ F v + 1
  sorted : Q.Pairwise fun a b => F a ≤ F b
  cap : ∀ v, v < G.ps.length → F v + 1 + unl F G.ps.length ≤ G.ps.length
  done : ∀ u, u < G.ps.length → u ≠ v → 0 ≤ F u → u ∉ Q → ∀ t, Adj G u t → 0 ≤ F t ∧ F t ≤ F u + 1
  part : ∀ j, j < i → ∀ t : Nat, toA (rowA G.ps v) j = t → 0 ≤ F t ∧ F t ≤ F v + 1

/-- nobody has a number -/
def noneF (_ : Nat) : Int := -1
theorem noneF_at (v : Nat) : noneF v = -1 := rfl

theorem Bfs.init {G : Gr} {s : Nat} (hs : s < G.ps.length) : Bfs G s (upd noneF s 0) [s] := by
  refine ⟨upd_same _ _ _, fun v _ => ?_, fun v _ k h => ?_, fun q hq => ?_, fun v _ q hq => ?_, List.pairwise_singleton _ _, fun v _ => ?_, fun v _ h hq => ?_⟩
  · have := noneF_at v; unfold upd; split <;> omega
  · unfold upd at h
    split at h
    · rw [show k = 0 by omega]; assumption
    · have := noneF_at v; omega
  · rw [List.mem_singleton.1 hq, upd_same]; exact ⟨hs, Int.le_refl _⟩
  · rw [List.mem_singleton.1 hq, upd_same]; have := noneF_at v; unfold upd; split <;> omega
  · have h1 := unl_upd (F := noneF) (x := 0) hs (by rw [noneF_at]; decide) (Int.le_refl _)
    have h2 := unl_le noneF G.ps.length
    have := noneF_at v
    by_cases e : v = s
    · rw [e, upd_same]; omega
    · rw [upd_other e]; omega
  · have hv : v ≠ s := fun e => hq (List.mem_singleton.2 e)
    rw [upd_other hv, noneF_at] at h
    omega

theorem Bfs.pop {G : Gr} {s : Nat} {F : Nat → Int} {v : Nat} {Q : List Nat} (h : Bfs G s F (v :: Q)) : BfsIn G s F Q v 0 := by
  have hs := List.pairwise_cons.1 h.sorted
  exact ⟨h.start, h.low, h.way, fun q hq => ⟨(h.inQ q (List.mem_cons_of_mem _ hq)).1, (h.inQ q (List.mem_cons_of_mem _ hq)).2, hs.1 q hq⟩, h.inQ v (List.mem_cons_self ..), fun u hu => h.near u hu v (List.mem_cons_self ..), hs.2, h.cap,
    fun u hu huv h0 hq => h.done u hu h0 (fun hm => (List.mem_cons.1 hm).elim huv hq), fun j hj => absurd hj (by omega)⟩

theorem BfsIn.close {G : Gr} {s : Nat} {F : Nat → Int} {v : Nat} {Q : List Nat} (h : BfsIn G s F Q v (rowA G.ps v).length) : Bfs G s F Q := by
  refine ⟨h.start, h.low, h.way, fun q hq => ⟨(h.inQ q hq).1, (h.inQ q hq).2.1⟩, fun u hu q hq => ?_, h.sorted, h.cap, fun u hu h0 hq t ht => ?_⟩
  · have := h.near u hu; have := (h.inQ q hq).2.2; omega
  · by_cases e : u = v
    · subst e
      obtain ⟨j, hj, e⟩ := ht
      exact h.part j hj t e
    · exact h.done u hu e h0 hq t ht

theorem BfsIn.skip {G : Gr} {s : Nat} {F : Nat → Int} {v i t : Nat} {Q : List Nat} (h : BfsIn G s F Q v i) (ht : toA (rowA G.ps v) i = t) (htl : t < G.ps.length) (h0 : 0 ≤ F t) : BfsIn G s F Q v (i + 1) :=
  ⟨h.start, h.low, h.way, h.inQ, h.here, h.near, h.sorted, h.cap, h.done, fun j hj u hu => by
    rcases Nat.lt_or_ge j i with h1 | h1
    · exact h.part j h1 u hu
    · rw [show j = i by omega, ht] at hu
      rw [show u = t by omega]
      exact ⟨h0, h.near t htl⟩⟩

theorem BfsIn.push {G : Gr} {s : Nat} {F : Nat → Int} {v i t : Nat} {Q : List Nat} (h : BfsIn G s F Q v i) (hi : i < (rowA G.ps v).length) (ht : toA (rowA G.ps v) i = t) (htl : t < G.ps.length) (h0 : F t < 0) :
    BfsIn G s (upd F t (F v + 1)) (Q ++ [t]) v (i + 1) := by
  have hvt : v ≠ t := fun e => by have := h.here.2; rw [e] at this; omega
  have hq0 : ∀ q ∈ Q, q ≠ t := fun q hq e => by have := (h.inQ q hq).2.1; rw [e] at this; omega
  have hv0 := h.here.2
  have keep : ∀ u, 0 ≤ F u → upd F t (F v + 1) u = F u := fun u hu => upd_other fun e => by rw [e] at hu; omega
  refine ⟨?_, fun u hu => ?_, fun u hu k hk => ?_, fun q hq => ?_, ?_, fun u hu => ?_, ?_, fun u hu => ?_, fun u hu huv hu0 hq x hx => ?_, fun j hj u hu => ?_⟩
  · rw [keep s (by rw [h.start]; omega)]; exact h.start
  · unfold upd; split
    · omega
    · exact h.low u hu
  · by_cases e : u = t
    · subst e
      rw [upd_same] at hk
      obtain ⟨m, hm⟩ : ∃ m : Nat, F v = m := ⟨(F v).toNat, by omega⟩
      rw [show k = m + 1 by omega]
      exact .inr ⟨v, h.way v h.here.1 m hm, i, hi, ht⟩
    · rw [upd_other e] at hk; exact h.way u hu k hk
  · rw [upd_other hvt]
    rcases List.mem_append.1 hq with hq | hq
    · rw [upd_other (hq0 q hq)]; exact h.inQ q hq
    · rw [List.mem_singleton.1 hq, upd_same]; exact ⟨htl, by omega, by omega⟩
  · rw [upd_other hvt]; exact h.here
  · rw [upd_other hvt]
    by_cases e : u = t
    · rw [e, upd_same]; exact Int.le_refl _
    · rw [upd_other e]; exact h.near u hu
  · rw [List.pairwise_append]
    refine ⟨h.sorted.imp_of_mem fun {a b} ha hb hab => by rw [upd_other (hq0 a ha), upd_other (hq0 b hb)]; exact hab, List.pairwise_singleton _ _, fun a ha b hb => ?_⟩
    rw [List.mem_singleton.1 hb, upd_same, upd_other (hq0 a ha)]
    exact h.near a (h.inQ a ha).1
  · have h1 := unl_upd (F := F) (x := F v + 1) htl h0 (by omega)
    by_cases e : u = t
    · rw [e, upd_same]; have := h.cap v h.here.1; omega
    · rw [upd_other e]; have := h.cap u hu; omega
  · have hut : u ≠ t := fun e => hq (by rw [e]; exact List.mem_append.2 (.inr (List.mem_singleton.2 rfl)))
    rw [upd_other hut] at hu0 ⊢
    have hd := h.done u hu huv hu0 (fun hm => hq (List.mem_append.2 (.inl hm))) x hx
    rw [keep x hd.1]; exact hd
  · rw [upd_other hvt]
    rcases Nat.lt_or_ge j i with h1 | h1
    · have hp := h.part j h1 u hu
      rw [keep u hp.1]; exact hp
    · rw [show j = i by omega, ht] at hu
      rw [show u = t by omega, upd_same]
      exact ⟨by omega, Int.le_refl _⟩

theorem Bfs.start_len {G : Gr} {s : Nat} (hs : s < G.ps.length) : unl (upd noneF s 0) G.ps.length + 1 ≤ G.ps.length := by
  have h1 := unl_upd (F := noneF) (x := 0) hs (by rw [noneF_at]; decide) (Int.le_refl _)
  have h2 := unl_le noneF G.ps.length
  omega

theorem Bfs.final {G : Gr} (hG : ValidG G) {s : Nat} {F : Nat → Int} (hs : s < G.ps.length) (h : Bfs G s F []) {v : Nat} (hv : v < G.ps.length) : F v = distF G s v := by
  have key : ∀ k u, Reach G s k u → 0 ≤ F u ∧ F u ≤ k := by
    intro k
    induction k with
    | zero => intro u hu; rw [show u = s from hu, h.start]; omega
    | succ k ih =>
      intro u hu
      rcases hu with hu | ⟨x, hx, ha⟩
      · have := ih u hu; omega
      · have hxl := hx.lt hG hs
        have h1 := ih x hx
        have h2 := h.done x hxl h1.1 (by simp) u ha
        omega
  refine (distF_eq ?_).symm
  by_cases h0 : 0 ≤ F v
  · obtain ⟨k, hk⟩ : ∃ k : Nat, F v = k := ⟨(F v).toNat, by omega⟩
    exact .inl ⟨k, hk, h.way v hv k hk, fun m hm => by have := key m v hm; omega⟩
  · exact .inr ⟨by have := h.low v hv; omega, fun m hm => by have := key m v hm; omega⟩
end Go.Proofs.Ytkffpipcjdhbaaa
