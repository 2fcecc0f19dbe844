/- What Distances of package graph answers, and Mod of selfstabmade. -/
import Derived.Test.YtfbbkiibhdgojaaMath1
import Derived.Test.YtfbbkiibhdgojaaGraph5
import Derived.Test.YtfbbkiibhdgojaaQueue
namespace Go.Proofs.Ytfbbkiibhdgojaa

def Adj (G : Gr) (u v : Nat) : Prop := ∃ i, i < (rowA G.ps u).length ∧ toA (rowA G.ps u) i = v

/-- v can be reached from s over at most k links -/
def Reach (G : Gr) (s : Nat) : Nat → Nat → Prop
  | 0, v => v = s
  | k + 1, v => Reach G s k v ∨ ∃ u, Reach G s k u ∧ Adj G u v

theorem Reach.mono {G : Gr} {s v k m : Nat} (h : Reach G s k v) (hkm : k ≤ m) : Reach G s m v := by
  induction m with
  | zero => rw [show k = 0 by omega] at h; exact h
  | succ m ih =>
    rcases Nat.lt_or_ge k (m + 1) with h1 | h1
    · exact .inl (ih (by omega))
    · rw [show k = m + 1 by omega] at h; exact h

theorem Adj.lt {G : Gr} (hG : ValidG G) {u v : Nat} (hu : u < G.ps.length) (h : Adj G u v) : v < G.ps.length ∧ v ≠ u := by
  obtain ⟨i, hi, e⟩ := h
  have := hG.links u hu i hi
  unfold LinkOk at this
  omega

theorem Reach.lt {G : Gr} (hG : ValidG G) {s v k : Nat} (hs : s < G.ps.length) (h : Reach G s k v) : v < G.ps.length := by
  induction k generalizing v with
  | zero => rw [show v = s from h]; exact hs
  | succ k ih =>
    rcases h with h | ⟨u, hu, ha⟩
    · exact ih h
    · exact (ha.lt hG (ih hu)).1

/-- d is the distance of v from s; -1 if there is no way -/
def IsDist (G : Gr) (s v : Nat) (d : Int) : Prop :=
  (∃ k : Nat, d = k ∧ Reach G s k v ∧ ∀ m, Reach G s m v → k ≤ m) ∨ (d = -1 ∧ ∀ m, ¬ Reach G s m v)

theorem IsDist.unique {G : Gr} {s v : Nat} {d e : Int} (h : IsDist G s v d) (h' : IsDist G s v e) : d = e := by
  rcases h with ⟨k, rfl, h1, h2⟩ | ⟨rfl, h1⟩
  · rcases h' with ⟨m, rfl, h3, h4⟩ | ⟨rfl, h3⟩
    · have := h2 m h3; have := h4 k h1; omega
    · exact absurd h1 (h3 k)
  · rcases h' with ⟨m, rfl, h3, h4⟩ | ⟨rfl, h3⟩
    · exact absurd h3 (h1 m)
    · rfl

theorem exists_dist (G : Gr) (s v : Nat) : ∃ d, IsDist G s v d := by
  by_cases h : ∃ k, Reach G s k v
  · obtain ⟨k, hk⟩ := h
    induction k using Nat.strongRecOn with
    | ind k ih =>
      by_cases h' : ∃ j, j < k ∧ Reach G s j v
      · obtain ⟨j, hj, hj'⟩ := h'
        exact ih j hj hj'
      · exact ⟨k, .inl ⟨k, rfl, hk, fun m hm => by
          rcases Nat.lt_or_ge m k with h1 | h1
          · exact absurd ⟨m, h1, hm⟩ h'
          · exact h1⟩⟩
  · exact ⟨-1, .inr ⟨rfl, fun m hm => h ⟨m, hm⟩⟩⟩

open Classical in
noncomputable def distF (G : Gr) (s v : Nat) : Int := Classical.choose (exists_dist G s v)
theorem distF_is (G : Gr) (s v : Nat) : IsDist G s v (distF G s v) := Classical.choose_spec (exists_dist G s v)
theorem distF_eq {G : Gr} {s v : Nat} {d : Int} (h : IsDist G s v d) : distF G s v = d := (distF_is G s v).unique h

/-! ### The search: what a row of numbers and a queue say -/

/-- nodes below n that have no number yet -/
def unl (F : Nat → Int) : Nat → Nat
  | 0 => 0
  | n + 1 => unl F n + if F n < 0 then 1 else 0

theorem unl_le (F : Nat → Int) (n : Nat) : unl F n ≤ n := by
  induction n with
  | zero => exact Nat.le_refl _
  | succ n ih => unfold unl; split <;> omega

theorem unl_congr {F H : Nat → Int} {n : Nat} (h : ∀ v, v < n → F v = H v) : unl F n = unl H n := by
  induction n with
  | zero => rfl
  | succ n ih => unfold unl; rw [ih fun v hv => h v (by omega), h n (by omega)]

def upd (F : Nat → Int) (t : Nat) (x : Int) : Nat → Int := fun v => if v = t then x else F v
theorem upd_same (F : Nat → Int) (t : Nat) (x : Int) : upd F t x t = x := if_pos rfl
theorem upd_other {F : Nat → Int} {t v : Nat} {x : Int} (h : v ≠ t) : upd F t x v = F v := if_neg h

theorem unl_upd {F : Nat → Int} {t n : Nat} {x : Int} (ht : t < n) (h : F t < 0) (hx : 0 ≤ x) : unl (upd F t x) n + 1 = unl F n := by
  induction n with
  | zero => omega
  | succ n ih =>
    unfold unl
    by_cases e : n = t
    · subst e
      rw [upd_same, unl_congr (n := n) (F := upd F n x) (H := F) fun v hv => upd_other (by omega), if_neg (by omega), if_pos h]
    · rw [upd_other e]
      have := ih (by omega)
      omega

/-- the state of the search: F holds the numbers, Q the nodes that are still to be looked at -/
structure Bfs (G : Gr) (s : Nat) (F : Nat → Int) (Q : List Nat) : Prop where
  start : F s = 0
  low : ∀ v, v < G.ps.length → -1 ≤ F v
  way : ∀ v, v < G.ps.length → ∀ k : Nat, F v = k → Reach G s k v
  inQ : ∀ q ∈ Q, q < G.ps.length ∧ 0 ≤ F q
  near : ∀ v, v < G.ps.length → ∀ q ∈ Q, F v ≤ F q + 1
  sorted : Q.Pairwise fun a b => F a ≤ F b
  cap : ∀ v, v < G.ps.length → F v + 1 + unl F G.ps.length ≤ G.ps.length
  done : ∀ v, v < G.ps.length → 0 ≤ F v → v ∉ Q → ∀ t, Adj G v t → 0 ≤ F t ∧ F t ≤ F v + 1

/-- .. while node v is looked at: its first i links are done -/
structure BfsIn (G : Gr) (s : Nat) (F : Nat → Int) (Q : List Nat) (v i : Nat) : Prop where
  start : F s = 0
  low : ∀ u, u < G.ps.length → -1 ≤ F u
  way : ∀ u, u < G.ps.length → ∀ k : Nat, F u = k → Reach G s k u
  inQ : ∀ q ∈ Q, q < G.ps.length ∧ 0 ≤ F q ∧ F v ≤ F q
  here : v < G.ps.length ∧ 0 ≤ F v
  near : ∀ u, u < G.ps.length → F u ≤ F v + 1
  sorted : Q.Pairwise fun a b => F a ≤ F b
  cap : ∀ v, v < G.ps.length → F v + 1 + unl F G.ps.length ≤ G.ps.length
  done : ∀ u, u < G.ps.length → u ≠ v → 0 ≤ F u → u ∉ Q → ∀ t, Adj G u t → 0 ≤ F t ∧ F t ≤ F u + 1
  part : ∀ j, j < i → ∀ t : Nat, toA (rowA G.ps v) j = t → 0 ≤ F t ∧ F t ≤ F v + 1

/-- nobody has a number -/
def noneF (_ : Nat) : Int := -1
theorem noneF_at (v : Nat) : noneF v = -1 := rfl

theorem Bfs.init {G : Gr} {s : Nat} (hs : s < G.ps.length) : Bfs G s (upd noneF s 0) [s] := by
  refine ⟨upd_same _ _ _, fun v _ => ?_, fun v _ k h => ?_, fun q hq => ?_, fun v _ q hq => ?_, List.pairwise_singleton _ _, fun v _ => ?_, fun v _ h hq => ?_⟩
  · have := noneF_at v; unfold upd; split <;> omega
  · unfold upd at h
    split at h
    · rw [show k = 0 by omega]; assumption
    · have := noneF_at v; omega
  · rw [List.mem_singleton.1 hq, upd_same]; exact ⟨hs, Int.le_refl _⟩
  · rw [List.mem_singleton.1 hq, upd_same]; have := noneF_at v; unfold upd; split <;> omega
  · have h1 := unl_upd (F := noneF) (x := 0) hs (by rw [noneF_at]; decide) (Int.le_refl _)
    have h2 := unl_le noneF G.ps.length
    have := noneF_at v
    by_cases e : v = s
    · rw [e, upd_same]; omega
    · rw [upd_other e]; omega
  · have hv : v ≠ s := fun e => hq (List.mem_singleton.2 e)
    rw [upd_other hv, noneF_at] at h
    omega

theorem Bfs.pop {G : Gr} {s : Nat} {F : Nat → Int} {v : Nat} {Q : List Nat} (h : Bfs G s F (v :: Q)) : BfsIn G s F Q v 0 := by
  have hs := List.pairwise_cons.1 h.sorted
  exact ⟨h.start, h.low, h.way, fun q hq => ⟨(h.inQ q (List.mem_cons_of_mem _ hq)).1, (h.inQ q (List.mem_cons_of_mem _ hq)).2, hs.1 q hq⟩, h.inQ v (List.mem_cons_self ..), fun u hu => h.near u hu v (List.mem_cons_self ..), hs.2, h.cap,
    fun u hu huv h0 hq => h.done u hu h0 (fun hm => (List.mem_cons.1 hm).elim huv hq), fun j hj => absurd hj (by omega)⟩

theorem BfsIn.close {G : Gr} {s : Nat} {F : Nat → Int} {v : Nat} {Q : List Nat} (h : BfsIn G s F Q v (rowA G.ps v).length) : Bfs G s F Q := by
  refine ⟨h.start, h.low, h.way, fun q hq => ⟨(h.inQ q hq).1, (h.inQ q hq).2.1⟩, fun u hu q hq => ?_, h.sorted, h.cap, fun u hu h0 hq t ht => ?_⟩
  · have := h.near u hu; have := (h.inQ q hq).2.2; omega
  · by_cases e : u = v
    · subst e
      obtain ⟨j, hj, e⟩ := ht
      exact h.part j hj t e
    · exact h.done u hu e h0 hq t ht

theorem BfsIn.skip {G : Gr} {s : Nat} {F : Nat → Int} {v i t : Nat} {Q : List Nat} (h : BfsIn G s F Q v i) (ht : toA (rowA G.ps v) i = t) (htl : t < G.ps.length) (h0 : 0 ≤ F t) : BfsIn G s F Q v (i + 1) :=
  ⟨h.start, h.low, h.way, h.inQ, h.here, h.near, h.sorted, h.cap, h.done, fun j hj u hu => by
    rcases Nat.lt_or_ge j i with h1 | h1
    · exact h.part j h1 u hu
    · rw [show j = i by omega, ht] at hu
      rw [show u = t by omega]
      exact ⟨h0, h.near t htl⟩⟩

theorem BfsIn.push {G : Gr} {s : Nat} {F : Nat → Int} {v i t : Nat} {Q : List Nat} (h : BfsIn G s F Q v i) (hi : i < (rowA G.ps v).length) (ht : toA (rowA G.ps v) i = t) (htl : t < G.ps.length) (h0 : F t < 0) :
    BfsIn G s (upd F t (F v + 1)) (Q ++ [t]) v (i + 1) := by
  have hvt : v ≠ t := fun e => by have := h.here.2; rw [e] at this; omega
  have hq0 : ∀ q ∈ Q, q ≠ t := fun q hq e => by have := (h.inQ q hq).2.1; rw [e] at this; omega
  have hv0 := h.here.2
  have keep : ∀ u, 0 ≤ F u → upd F t (F v + 1) u = F u := fun u hu => upd_other fun e => by rw [e] at hu; omega
  refine ⟨?_, fun u hu => ?_, fun u hu k hk => ?_, fun q hq => ?_, ?_, fun u hu => ?_, ?_, fun u hu => ?_, fun u hu huv hu0 hq x hx => ?_, fun j hj u hu => ?_⟩
  · rw [keep s (by rw [h.start]; omega)]; exact h.start
  · unfold upd; split
    · omega
    · exact h.low u hu
  · by_cases e : u = t
    · subst e
      rw [upd_same] at hk
      obtain ⟨m, hm⟩ : ∃ m : Nat, F v = m := ⟨(F v).toNat, by omega⟩
      rw [show k = m + 1 by omega]
      exact .inr ⟨v, h.way v h.here.1 m hm, i, hi, ht⟩
    · rw [upd_other e] at hk; exact h.way u hu k hk
  · rw [upd_other hvt]
    rcases List.mem_append.1 hq with hq | hq
    · rw [upd_other (hq0 q hq)]; exact h.inQ q hq
    · rw [List.mem_singleton.1 hq, upd_same]; exact ⟨htl, by omega, by omega⟩
  · rw [upd_other hvt]; exact h.here
  · rw [upd_other hvt]
    by_cases e : u = t
    · rw [e, upd_same]; exact Int.le_refl _
    · rw [upd_other e]; exact h.near u hu
  · rw [List.pairwise_append]
    refine ⟨h.sorted.imp_of_mem fun {a b} ha hb hab => by rw [upd_other (hq0 a ha), upd_other (hq0 b hb)]; exact hab, List.pairwise_singleton _ _, fun a ha b hb => ?_⟩
    rw [List.mem_singleton.1 hb, upd_same, upd_other (hq0 a ha)]
    exact h.near a (h.inQ a ha).1
  · have h1 := unl_upd (F := F) (x := F v + 1) htl h0 (by omega)
    by_cases e : u = t
    · rw [e, upd_same]; have := h.cap v h.here.1; omega
    · rw [upd_other e]; have := h.cap u hu; omega
  · have hut : u ≠ t := fun e => hq (by rw [e]; exact List.mem_append.2 (.inr (List.mem_singleton.2 rfl)))
    rw [upd_other hut] at hu0 ⊢
    have hd := h.done u hu huv hu0 (fun hm => hq (List.mem_append.2 (.inl hm))) x hx
    rw [keep x hd.1]; exact hd
  · rw [upd_other hvt]
    rcases Nat.lt_or_ge j i with h1 | h1
    · have hp := h.part j h1 u hu
      rw [keep u hp.1]; exact hp
    · rw [show j = i by omega, ht] at hu
      rw [show u = t by omega, upd_same]
      exact ⟨by omega, Int.le_refl _⟩

theorem Bfs.start_len {G : Gr} {s : Nat} (hs : s < G.ps.length) : unl (upd noneF s 0) G.ps.length + 1 ≤ G.ps.length := by
  have h1 := unl_upd (F := noneF) (x := 0) hs (by rw [noneF_at]; decide) (Int.le_refl _)
  have h2 := unl_le noneF G.ps.length
  omega

theorem Bfs.final {G : Gr} (hG : ValidG G) {s : Nat} {F : Nat → Int} (hs : s < G.ps.length) (h : Bfs G s F []) {v : Nat} (hv : v < G.ps.length) : F v = distF G s v := by
  have key : ∀ k u, Reach G s k u → 0 ≤ F u ∧ F u ≤ k := by
    intro k
    induction k with
    | zero => intro u hu; rw [show u = s from hu, h.start]; omega
    | succ k ih =>
      intro u hu
      rcases hu with hu | ⟨x, hx, ha⟩
      · have := ih u hu; omega
      · have hxl := hx.lt hG hs
        have h1 := ih x hx
        have h2 := h.done x hxl h1.1 (by simp) u ha
        omega
  refine (distF_eq ?_).symm
  by_cases h0 : 0 ≤ F v
  · obtain ⟨k, hk⟩ : ∃ k : Nat, F v = k := ⟨(F v).toNat, by omega⟩
    exact .inl ⟨k, hk, h.way v hv k hk, fun m hm => by have := key m v hm; omega⟩
  · exact .inr ⟨by have := h.low v hv; omega, fun m hm => by have := key m v hm; omega⟩
end Go.Proofs.Ytfbbkiibhdgojaa
namespace Go.Proofs.Ytfbbkiibhdgojaa
open Go.RowKit

theorem MadeAt.keep {w w' : World} {b n : Nat} {f : Nat → Int} (h : MadeAt w b n f) (hs : w.heap.size ≤ w'.heap.size) (hk : w'.heap[b]? = w.heap[b]?) : MadeAt w' b n f :=
  ⟨Nat.lt_of_lt_of_le h.1 hs, fun i hi => by
    rw [World.cell?_of_block (w := w) (a := ⟨b, i, none⟩) hk, World.frozen?_of_block (w := w) (a := ⟨b, i, none⟩) hk]
    exact h.2 i hi⟩
theorem MadeAt.set {w : World} {b n : Nat} {f : Nat → Int} (h : MadeAt w b n f) {t : Nat} {x : Int} (ht : t < n) : MadeAt (w.setCell ⟨b, t, none⟩ (.int .i64 x)) b n (upd f t x) :=
  ⟨by simpa [World.setCell] using h.1, fun i hi => ⟨by
    by_cases e : i = t
    · subst e; rw [upd_same]; exact set_same (h.2 i hi).1
    · rw [upd_other e, set_other (by intro h; injection h; omega)]; exact (h.2 i hi).1, by rw [World.frozen?_setCell]; exact (h.2 i hi).2⟩⟩
theorem MadeAt.congr {w : World} {b n : Nat} {f g : Nat → Int} (h : MadeAt w b n f) (e : ∀ i, i < n → f i = g i) : MadeAt w b n g :=
  ⟨h.1, fun i hi => by rw [← e i hi]; exact h.2 i hi⟩

/-- a list of nodes as numbers -/
def asInts (l : List Nat) : List Int := l.map Int.ofNat
theorem asInts_len (l : List Nat) : (asInts l).length = l.length := List.length_map ..
theorem asInts_snoc (l : List Nat) (t : Nat) : asInts (l ++ [t]) = asInts l ++ [(t : Int)] := by simp [asInts]
theorem asInts_head (v : Nat) (l : List Nat) : idA (asInts (v :: l)) 0 = v := rfl
theorem asInts_tail (v : Nat) (l : List Nat) (i : Nat) : idA (asInts (v :: l)) (i + 1) = idA (asInts l) i := rfl

theorem QueueAt.tail1 {B : Nat} {w : World} {b o l : Nat} {x : Int} {qs : List Int} (h : QueueAt B w (some ⟨b, o, none⟩) l 1 (x :: qs)) : QueueAt B w (some ⟨b, o, none⟩) (l - 1) 0 qs := by
  obtain ⟨h1, h2, h3, h4⟩ := h
  simp at h1
  refine ⟨by omega, by omega, Nat.zero_le _, ?_⟩
  rcases h4 with ⟨h4, _⟩ | ⟨b', o', e, hB, hb, hc, hf⟩
  · cases h4
  · cases e
    exact .inr ⟨b, o, rfl, hB, hb, fun i hi => absurd hi (by omega), fun i hi => absurd hi (by omega)⟩

theorem QueueAt.tail {B : Nat} {w : World} {b o l c : Nat} {x : Int} {qs : List Int} (h : QueueAt B w (some ⟨b, o, none⟩) l c (x :: qs)) : QueueAt B w (some ⟨b, o + 1, none⟩) (l - 1) (c - 1) qs := by
  obtain ⟨h1, h2, h3, h4⟩ := h
  simp at h1
  refine ⟨by omega, by omega, by omega, ?_⟩
  rcases h4 with ⟨h4, _⟩ | ⟨b', o', e, hB, hb, hc, hf⟩
  · cases h4
  · cases e
    refine .inr ⟨b, o + 1, rfl, hB, hb, fun i hi => ?_, fun i hi => ?_⟩
    · have := hc (i + 1) (by omega)
      rw [show o + 1 + i = o + (i + 1) by omega]
      exact this
    · have := hf (i + 1) (by omega)
      rw [show o + 1 + i = o + (i + 1) by omega]
      exact this

theorem QueueAt.base {B : Nat} {w : World} {a : Option Addr} {l c : Nat} {qs : List Int} (h : QueueAt B w a l c qs) : ∀ k, blockOf a = some k → B ≤ k ∧ k < w.heap.size := by
  intro k hk
  rcases h.2.2.2 with ⟨rfl, _⟩ | ⟨b, o, rfl, hB, hb, _⟩
  · cases hk
  · cases hk; exact ⟨hB, hb⟩

set_option maxHeartbeats 4000000 in
theorem distances_any (ia pa : Option Addr) (il ic pl pc : Nat) (G : Gr) (s : Nat) (w : World) (hG : GraphAt w ia il pa pl G) (hV : ValidG G) (hs : s < pl) :
    Calls Try.prog 28 #[.agg #[.slice ia il ic, .slice pa pl pc], .int .i64 s] w fun e w' => (∃ blk, e = .returned (.slice (some ⟨blk, 0, none⟩) pl pl) ∧ w.heap.size ≤ blk ∧ MadeAt w' blk pl (distF G s)) ∧ Below w.heap.size w w' := by
  have Hpl := Lib.hid hG.pl
  have h24 : pl ≤ 24 := by have := hV.le; have := Hpl.out; omega
  have h1 : 1 ≤ pl := by omega
  obtain ⟨pb, po, rfl, hpb, hrow⟩ := hG.ports.row (by have := Hpl.out; omega)
  have Hrow := Lib.hid hrow
  have HV := Lib.hid hV
  clear hrow hV
  go_enter Try.func28, Try.ntmps28
  go_wp2_with fail
  refine (repeat_any _ _ _ pl (-1) _ h1 h24 (by simp) (by simp)).mono ?_
  rintro e w1 ⟨⟨fb, rfl, hfb, hM⟩, hb1⟩
  have hst1 := (hM.2 s hs).1
  have hst2 := (hM.2 s hs).2
  go_wp2
  have hfb : w.heap.size + 2 ≤ fb := by simpa using hfb
  have hbx : Below (w.heap.size + 1) (w.alloc (.cells #[.slice ia il ic, .slice (some ⟨pb, po, none⟩) pl pc] 25)) w1 := ((Below.refl _ _).alloc (by simp) _).trans (hb1.mono (by simp))
  have hM1 := (hM.set (x := 0) hs)
  have hM2 : MadeAt (w1.setCell ⟨fb, s, none⟩ (.int .i64 0)) fb pl (upd noneF s 0) := hM1
  have hfl := hM.1
  clear hst1 hst2 hM hM1 hb1
  have HM := Lib.hid hM2
  clear hM2
  go_loopg [6] 24 (fun k qv wr => ∃ qa ql qc Qs F, qv = .slice qa ql qc ∧ QueueAt (w.heap.size + 1) wr qa ql qc (asInts Qs) ∧ MadeAt wr fb pl F ∧ Bfs G s F Qs ∧ unl F pl + Qs.length ≤ k ∧ k ≤ 24 ∧ blockOf qa ≠ some fb ∧ Below (w.heap.size + 1) (w.alloc (.cells #[.slice ia il ic, .slice (some ⟨pb, po, none⟩) pl pc] 25)) wr)
  case atStart =>
    refine ⟨_, _, _, [s], upd noneF s 0, rfl, ?_, ?_, ?_, ?_, Nat.le_refl _, ?_, ?_⟩
    · refine ⟨rfl, Nat.le_refl _, by unfold maxLen; omega, .inr ⟨_, 0, rfl, ?_, ?_, fun i hi => ?_, fun i hi => ?_⟩⟩
      · have := hbx.size; simp at this; omega
      · simp
      · have e : (w1.setCell ⟨fb, s, none⟩ (.int .i64 0)).heap.size = w1.heap.size := by simp [World.setCell]
        rw [show i = 0 by omega, ← e]
        exact World.cell?_alloc_new _ _ _ 0
      · have e : (w1.setCell ⟨fb, s, none⟩ (.int .i64 0)).heap.size = w1.heap.size := by simp [World.setCell]
        rw [show i = 0 by omega, ← e]
        exact ⟨by rw [World.cell?_alloc_new]; rfl, World.frozen?_alloc_new _ _ _ _⟩
    · exact HM.out.keep (by simp) (Below.heap_alloc _ _ _ (by simpa [World.setCell] using hfl))
    · exact Bfs.init (by have := Hpl.out; omega)
    · have := Bfs.start_len (G := G) (s := s) (by have := Hpl.out; omega)
      rw [← Hpl.out] at this
      simp; omega
    · simp [blockOf]; omega
    · exact ((hbx.setCell (by show w.heap.size + 1 ≤ fb; omega) _).alloc (by have := hbx.size; simp at this; simp [World.setCell]; omega) _)
  case round =>
    obtain ⟨qa, ql, qc, Qs, F, rfl, hq, hM, hB, hk, hk24, hne, hbel⟩ := hrel
    have hq' := hq
    obtain ⟨hq1, hq2, hq3, hq4⟩ := hq
    rw [asInts_len] at hq1
    cases Qs with
    | nil =>
      have HF := Lib.hid (hM.congr fun i hi => hB.final HV.out (by have := Hpl.out; omega) (v := i) (by have := Hpl.out; omega))
      have hq0 : ql = 0 := by simpa using hq1
      subst hq0
      clear hq1 hq4 hM hB hq'
      go_wp2
      go_ret
      exact ⟨⟨fb, rfl, by omega, HF.out⟩, belBox hbel⟩
    | cons v Q =>
      rcases hq4 with ⟨_, h0⟩ | ⟨qb, qo, rfl, hqB, hqlt, hqc, hqf⟩
      · exact absurd hq1 (by simp; omega)
      have hqv := hqc 0 (by simp at hq1; omega)
      have hql : 1 ≤ ql := by simp at hq1; omega
      clear hq1
      rw [asInts_head, Nat.add_zero] at hqv
      have hql' : (0 : Int) < ql := by omega
      have hqd : decide (0 < ql) = true := by simp; omega
      have hqlm : (ql : Int) ≤ 9223372036854775807 := by unfold maxLen at hq3; omega
      have HQ := Lib.hid hq'
      have HM := Lib.hid hM
      have HB := Lib.hid hB
      have hvl := (hB.inQ v (List.mem_cons_self ..)).1
      clear hqc hqf hM hB hq'
      have hvl' : v < pl := by have := Hpl.out; omega
      obtain ⟨la, lc, hcl, hL⟩ := Hrow.out v hvl
      have HCL := Lib.hid hcl
      have hcl := ((belBox hbel).cell (p := ⟨pb, po + v, none⟩) hpb).trans hcl
      have HL := Lib.hid hL
      have hlm := hL.size
      unfold maxLen at hlm
      have hb1 : wr.cell? ⟨w.heap.size, 1, none⟩ = some (.slice (some ⟨pb, po, none⟩) pl pc) := boxed hbel 1
      clear hL
      by_cases hqc1 : qc = 1
      all_goals try subst hqc1
      all_goals
        go_wp2
        obtain ⟨wo, rfl⟩ : ∃ wo : World, wo = wr := ⟨_, rfl⟩
        go_loopw [6, 34] (fun qv t wr => ∃ i qa ql qc Qs F, t = .int .i64 (i : Nat) ∧ i ≤ (rowA G.ps v).length ∧ qv = .slice qa ql qc ∧ QueueAt (w.heap.size + 1) wr qa ql qc (asInts Qs) ∧ MadeAt wr fb pl F ∧ BfsIn G s F Qs v i ∧ unl F pl + Qs.length + 1 ≤ gk ∧ blockOf qa ≠ some fb ∧ Below (w.heap.size + 1) (w.alloc (.cells #[.slice ia il ic, .slice (some ⟨pb, po, none⟩) pl pc] 25)) wr) (fun _ t _ => (rowA G.ps v).length - (intOf t).toNat)
        case atStart =>
          refine ⟨0, _, _, _, Q, F, rfl, Nat.zero_le _, rfl, ?_, HM.out, HB.out.pop, by simp at hk; omega, hne, hbel⟩
          first | (have h9 := HQ.out.tail1; rw [show ql - 1 = 0 from by omega] at h9; exact h9) | exact HQ.out.tail1 | exact HQ.out.tail
        case round =>
          clear hbel hql hql' hqlm hqv hcl hb1 hqlt hqB hk
          obtain ⟨i, qa, ql2, qc2, Qs, F2, rfl, hi, rfl, hq, hM, hB, hk2, hne2, hbel⟩ := hrel
          have HQ2 := Lib.hid hq
          have HM2 := Lib.hid hM
          have HB2 := Lib.hid hB
          clear hq hM hB
          by_cases hlt : i < (rowA G.ps v).length
          · obtain ⟨lb, lo, rfl, hlb, hcs⟩ := (HL.out.below (belBox hbel)).row (by omega)
            have hck1 := (hcs i hlt).1
            have hck2 := (hcs i hlt).2
            clear hcs
            have hok := HV.out.links v hvl i hlt
            obtain ⟨d, hd⟩ : ∃ d : Nat, toA (rowA G.ps v) i = d := ⟨(toA (rowA G.ps v) i).toNat, by have := hok.1; omega⟩
            have hdl : d < G.ps.length := by have := hok.1; omega
            have hdl' : d < pl := by have := Hpl.out; omega
            have hdi : (d : Int) < pl := by omega
            have hvi : (v : Int) < pl := by omega
            rw [hd] at hck1
            have Hd := Lib.hid hd
            clear hd hok
            have hfd := (HM2.out.2 d hdl').1
            have hz1 : w.heap.size < wr.heap.size := by have := hbel.size; simp at this; omega
            have hz2 : fb < wr.heap.size := HM2.out.1
            by_cases h0 : F2 d < 0
            · have hfv := (HM2.out.2 v hvl').1
              have hff := (HM2.out.2 d hdl').2
              have hv0 := HB2.out.here.2
              have hv1 : F2 v ≤ 24 := by have := HB2.out.cap v hvl; have := HV.out.le; omega
              have hlt9 : w.heap.size + 1 ≤ wr.heap.size := by omega
              have HQ9 : Hid (QueueAt (w.heap.size + 1) ((((wr.setCell ⟨fb, d, none⟩ (.int .i64 (F2 v + 1))).alloc (.cells #[.int .i64 d, .int .i64 (wtA (rowA G.ps v) i)] 41)).alloc (.cells #[.int .i64 d] 3)).drew) qa ql2 qc2 (asInts Qs)) := Lib.hid (HQ2.out.keep (by simp [World.setCell]; omega) fun b hb => by
                have h1 := (HQ2.out.base b hb).2
                have h2 : b ≠ fb := fun e => hne2 (by rw [hb, e])
                show ((((wr.setCell ⟨fb, d, none⟩ (.int .i64 (F2 v + 1))).alloc (.cells #[.int .i64 d, .int .i64 (wtA (rowA G.ps v) i)] 41)).alloc (.cells #[.int .i64 d] 3))).heap[b]? = _
                rw [Below.heap_alloc _ _ _ (by simp [World.setCell]; omega), Below.heap_alloc _ _ _ (by simp [World.setCell]; omega), Below.heap_setCell _ _ _ _ h2])
              have HM9 : Hid (MadeAt ((((wr.setCell ⟨fb, d, none⟩ (.int .i64 (F2 v + 1))).alloc (.cells #[.int .i64 d, .int .i64 (wtA (rowA G.ps v) i)] 41)).alloc (.cells #[.int .i64 d] 3)).drew) fb pl (upd F2 d (F2 v + 1))) := Lib.hid ((HM2.out.set (t := d) (x := F2 v + 1) hdl').keep (by simp [World.setCell]; omega) (by
                show ((((wr.setCell ⟨fb, d, none⟩ (.int .i64 (F2 v + 1))).alloc (.cells #[.int .i64 d, .int .i64 (wtA (rowA G.ps v) i)] 41)).alloc (.cells #[.int .i64 d] 3))).heap[fb]? = _
                rw [Below.heap_alloc _ _ _ (by simp [World.setCell]; omega), Below.heap_alloc _ _ _ (by simp [World.setCell]; omega)]))
              have HB9 : Hid (Below (w.heap.size + 1) (w.alloc (.cells #[.slice ia il ic, .slice (some ⟨pb, po, none⟩) pl pc] 25)) ((((wr.setCell ⟨fb, d, none⟩ (.int .i64 (F2 v + 1))).alloc (.cells #[.int .i64 d, .int .i64 (wtA (rowA G.ps v) i)] 41)).alloc (.cells #[.int .i64 d] 3)).drew)) := Lib.hid ((((hbel.setCell (by show w.heap.size + 1 ≤ fb; omega) _).alloc (by simp [World.setCell]; omega) _).alloc (by simp [World.setCell]; omega) _).drew)
              have HZ9 : Hid (((((wr.setCell ⟨fb, d, none⟩ (.int .i64 (F2 v + 1))).alloc (.cells #[.int .i64 d, .int .i64 (wtA (rowA G.ps v) i)] 41)).alloc (.cells #[.int .i64 d] 3)).drew).cell? ⟨wr.heap.size + 1, 0, none⟩ = some (.int .i64 d)) := Lib.hid (by rw [World.cell?_drew, show wr.heap.size + 1 = ((wr.setCell ⟨fb, d, none⟩ (.int .i64 (F2 v + 1))).alloc (.cells #[.int .i64 d, .int .i64 (wtA (rowA G.ps v) i)] 41)).heap.size from by simp [World.setCell]]; exact World.cell?_alloc_new _ _ _ 0)
              have hS9 : w.heap.size + 1 ≤ ((((wr.setCell ⟨fb, d, none⟩ (.int .i64 (F2 v + 1))).alloc (.cells #[.int .i64 d, .int .i64 (wtA (rowA G.ps v) i)] 41)).alloc (.cells #[.int .i64 d] 3)).drew).heap.size := by simp [World.setCell]; omega
              have HS9 := Lib.hid hS9
              have hL9 : (asInts Qs).length ≤ 1000000 := by rw [asInts_len]; omega
              have HL9 := Lib.hid hL9
              clear hS9 hL9
              go_wp2
              go_region
              go_wp2_with (at_builtin; refine wpList_append_queue rfl (.tmp 53) (.tmp 56) rfl qa ql2 qc2 (asInts Qs) d (wr.heap.size + 1) 1 rfl rfl HQ9.out HZ9.out HS9.out HL9.out ?_; intro a' c' w9 hq9 hg9 hbk9)
              have hbel9 := HB9.out.grown hg9 HS9.out (fun k hk => (HQ2.out.base k hk).1)
              have HM10 := Lib.hid (HM9.out.keep hg9.size (hg9.block fb HM9.out.1 (fun e => hne2 e.symm)))
              go_roundw
              case rel =>
                refine ⟨i + 1, a', ql2 + 1, c', Qs ++ [d], upd F2 d (F2 v + 1), by go_num, by omega, rfl, ?_, HM10.out, HB2.out.push hlt Hd.out hdl h0, ?_, ?_, hbel9⟩
                · rw [asInts_snoc]; exact hq9
                · have := unl_upd (F := F2) (x := F2 v + 1) hdl' h0 (by omega)
                  simp; omega
                · rcases hbk9 with e | ⟨b, e, hb⟩
                  · rw [e]; exact hne2
                  · rw [e]; intro h; cases h; simp [World.setCell] at hb; omega
              case measure => simp [intOf]; omega
            · go_wp2
              go_roundw
              case rel =>
                refine ⟨i + 1, qa, ql2, qc2, Qs, F2, by go_num, by omega, rfl, HQ2.out.keep (by simp) fun b hb => Below.heap_alloc _ _ _ (HQ2.out.base b hb).2, HM2.out.keep (by simp) (Below.heap_alloc _ _ _ hz2), HB2.out.skip Hd.out hdl (by omega), hk2, hne2, hbel.alloc (by omega) _⟩
              case measure => simp [intOf]; omega
          · have HB3 : Hid (Bfs G s F2 Qs) := Lib.hid (by
              have h9 := HB2.out
              rw [show i = (rowA G.ps v).length by omega] at h9
              exact h9.close)
            go_wp2
            go_roundg (gk - 1)
            case measure => omega
            case rel => exact ⟨qa, ql2, qc2, Qs, F2, rfl, HQ2.out, HM2.out, HB3.out, by omega, by omega, hne2, hbel⟩
end Go.Proofs.Ytfbbkiibhdgojaa
namespace Go.Proofs.Ytfbbkiibhdgojaa
open Go.RowKit

/-- the greatest of f 0 .. f k -/
def maxF (f : Nat → Int) : Nat → Int
  | 0 => f 0
  | k + 1 => max (maxF f k) (f (k + 1))
theorem maxF_ge {f : Nat → Int} {i k : Nat} (h : i ≤ k) : f i ≤ maxF f k := by
  induction k with
  | zero => rw [show i = 0 by omega]; exact Int.le_refl _
  | succ k ih =>
    unfold maxF
    by_cases e : i = k + 1
    · subst e; omega
    · have := ih (by omega); omega
theorem maxF_at (f : Nat → Int) (k : Nat) : ∃ i, i ≤ k ∧ maxF f k = f i := by
  induction k with
  | zero => exact ⟨0, Nat.le_refl _, rfl⟩
  | succ k ih =>
    obtain ⟨i, hi, e⟩ := ih
    unfold maxF
    by_cases h : maxF f k ≤ f (k + 1)
    · exact ⟨k + 1, Nat.le_refl _, by omega⟩
    · exact ⟨i, by omega, by omega⟩
theorem maxF_congr {f g : Nat → Int} {k : Nat} (h : ∀ i, i ≤ k → f i = g i) : maxF f k = maxF g k := by
  induction k with
  | zero => exact h 0 (Nat.le_refl _)
  | succ k ih =>
    unfold maxF
    rw [ih fun i hi => h i (by omega), h (k + 1) (Nat.le_refl _)]

open Classical in
noncomputable def hasB (f : Nat → Int) (n : Nat) (z : Int) : Bool := decide (∃ i, i < n ∧ f i = z)
theorem hasB_iff {f : Nat → Int} {n : Nat} {z : Int} : hasB f n z = true ↔ ∃ i, i < n ∧ f i = z := by simp [hasB]
theorem hasB_mkF {f : Nat → Int} {n : Nat} {z : Int} (h : ¬ ∃ i, i < n ∧ f i = z) : hasB f n z = false := by
  unfold hasB
  exact decide_eq_false h

open Classical in
noncomputable def connB (G : Gr) : Bool := decide (ValidG G ∧ ∀ v, v < G.ps.length → distF G 0 v ≠ -1)
theorem connB_iff {G : Gr} : connB G = true ↔ ValidG G ∧ ∀ v, v < G.ps.length → distF G 0 v ≠ -1 := by simp [connB]
theorem connB_mkF {G : Gr} (h : ¬ (ValidG G ∧ ∀ v, v < G.ps.length → distF G 0 v ≠ -1)) : connB G = false := by
  unfold connB
  simpa using h

/-- the greatest distance from v, in a connected graph -/
noncomputable def eccF (G : Gr) (v : Int) : Int := if connB G = true ∧ inB v 0 (G.ps.length - 1) = true then maxF (distF G v.toNat) (G.ps.length - 1) else -1
noncomputable def diamF (G : Gr) : Int := if connB G = true then maxF (fun v => maxF (distF G v) (G.ps.length - 1)) (G.ps.length - 1) else -1

end Go.Proofs.Ytfbbkiibhdgojaa
namespace Go.Proofs.Ytfbbkiibhdgojaa
open Go.RowKit

def G0 : Gr := ⟨[7, 3], [[(1, 5)], [(0, 5)]]⟩

theorem valid0 : ValidG G0 := by
  refine ⟨by decide, by decide, by decide, fun v hv => ?_, fun v hv => ?_, fun v hv i hi => ?_⟩
  · have : v = 0 ∨ v = 1 := by simp [G0] at hv; omega
    rcases this with rfl | rfl
    · exact ⟨by decide, fun k hk => absurd hk (by omega)⟩
    · exact ⟨by decide, fun k hk => by rw [show k = 0 by omega]; decide⟩
  · have : v = 0 ∨ v = 1 := by simp [G0] at hv; omega
    rcases this with rfl | rfl
    all_goals
      intro i hi
      have h0 : i = 0 := by simp [G0, rowA] at hi; omega
      subst h0
      exact ⟨by decide, by decide, by decide, fun k hk => absurd hk (by omega)⟩
  · have : v = 0 ∨ v = 1 := by simp [G0] at hv; omega
    rcases this with rfl | rfl
    all_goals
      have h0 : i = 0 := by simp [G0, rowA] at hi; omega
      subst h0
      unfold MateOk
      decide

theorem adj0 : Adj G0 0 1 := ⟨0, by decide, by decide⟩
theorem adj1 : Adj G0 1 0 := ⟨0, by decide, by decide⟩
theorem dist_self (G : Gr) (v : Nat) : distF G v v = 0 := distF_eq (.inl ⟨0, rfl, rfl, fun m _ => Nat.zero_le m⟩)
theorem dist_adj {G : Gr} {u v : Nat} (h : Adj G u v) (hne : v ≠ u) : distF G u v = 1 :=
  distF_eq (.inl ⟨1, rfl, .inr ⟨u, rfl, h⟩, fun m hm => by
    rcases Nat.eq_zero_or_pos m with rfl | h0
    · exact absurd hm hne
    · exact h0⟩)
theorem conn0 : connB G0 = true := connB_iff.2 ⟨valid0, fun v hv => by
  have : v = 0 ∨ v = 1 := by simp [G0] at hv; omega
  rcases this with rfl | rfl
  · rw [dist_self]; decide
  · rw [dist_adj adj0 (by decide)]; decide⟩
theorem diam0 : diamF G0 = 1 := by
  unfold diamF
  rw [if_pos conn0]
  have e : G0.ps.length - 1 = 1 := rfl
  rw [e]
  simp only [maxF]
  rw [dist_self, dist_self, dist_adj adj0 (by decide), dist_adj adj1 (by decide)]
  rfl
theorem deg0 : degF G0 1 = 1 := by
  unfold degF
  rw [if_pos ⟨validB_mk valid0, by decide⟩]
  decide

theorem cell_push (w : World) (c : Array Value) (t : TypeId) (b i : Nat) : (w.alloc (.cells c t)).cell? ⟨b, i, none⟩ = if b = w.heap.size then c[i]? else w.cell? ⟨b, i, none⟩ := by
  split
  · rename_i h; rw [h]; exact World.cell?_alloc_new w c t i
  · rename_i h; exact World.cell?_alloc_old w _ _ h

/-- the world behind the example's making -/
def W5 (w : World) : World :=
  ((((w.alloc (.cells #[.int .i64 7, .int .i64 3] 3)).alloc (.cells #[.int .i64 1, .int .i64 5] 41)).alloc (.cells #[.int .i64 0, .int .i64 5] 41)).alloc
    (.cells #[.slice (some ⟨w.heap.size + 1, 0, none⟩) 1 1, .slice (some ⟨w.heap.size + 1 + 1, 0, none⟩) 1 1] 38)).alloc
    (.cells #[.slice (some ⟨w.heap.size, 0, none⟩) 2 2, .slice (some ⟨w.heap.size + 1 + 1 + 1, 0, none⟩) 2 2] 25)

theorem graph0 (w : World) : GraphAt (W5 w) (some ⟨w.heap.size, 0, none⟩) 2 (some ⟨w.heap.size + 1 + 1 + 1, 0, none⟩) 2 G0 := by
  have i64 : ∀ z : Int, 0 ≤ z → z ≤ 10 → I64 z := fun z h1 h2 => ⟨by omega, by omega⟩
  refine ⟨rfl, rfl, ⟨by decide, fun _ => ⟨_, 0, rfl, by simp [W5]; omega, fun i hi => ?_⟩, ?_⟩, ⟨by decide, fun _ => ⟨_, 0, rfl, by simp [W5], fun v hv => ?_⟩⟩⟩
  · have : i = 0 ∨ i = 1 := by simp [G0] at hi; omega
    rcases this with rfl | rfl <;> (simp [W5, cell_push, G0, idA]; rw [if_neg (by omega), if_neg (by omega), if_neg (by omega)])
  · intro z hz
    simp [G0] at hz
    exact i64 z (by omega) (by omega)
  · have : v = 0 ∨ v = 1 := by simp [G0] at hv; omega
    rcases this with rfl | rfl
    · refine ⟨some ⟨w.heap.size + 1, 0, none⟩, 1, by simp [W5, cell_push, G0, rowA], ⟨by decide, fun _ => ⟨_, 0, rfl, by simp [W5], fun i hi => ?_⟩, ?_⟩⟩
      · have : i = 0 := by simp [G0, rowA] at hi; omega
        subst this
        simp [W5, cell_push, G0, rowA, toA, wtA]
      · intro z hz
        simp [G0, rowA] at hz
        rw [hz]
        exact ⟨i64 _ (by omega) (by omega), i64 _ (by omega) (by omega)⟩
    · refine ⟨some ⟨w.heap.size + 1 + 1, 0, none⟩, 1, by simp [W5, cell_push, G0, rowA], ⟨by decide, fun _ => ⟨_, 0, rfl, by simp [W5], fun i hi => ?_⟩, ?_⟩⟩
      · have : i = 0 := by simp [G0, rowA] at hi; omega
        subst this
        simp [W5, cell_push, G0, rowA, toA, wtA]
      · intro z hz
        simp [G0, rowA] at hz
        rw [hz]
        exact ⟨i64 _ (by omega) (by omega), i64 _ (by omega) (by omega)⟩

theorem below0 (w : World) : Below w.heap.size w (W5 w) := by
  unfold W5
  exact (((((Below.refl _ _).alloc (Nat.le_refl _) _).alloc (by simp) _).alloc (by simp; omega) _).alloc (by simp; omega) _).alloc (by simp; omega) _

theorem box0 {w w' : World} (h : Below (W5 w).heap.size (W5 w) w') (i : Nat) : w'.cell? ⟨w.heap.size + 1 + 1 + 1 + 1, i, none⟩ = (#[.slice (some ⟨w.heap.size, 0, none⟩) 2 2, .slice (some ⟨w.heap.size + 1 + 1 + 1, 0, none⟩) 2 2] : Array Value)[i]? := by
  rw [h.cell (p := ⟨w.heap.size + 1 + 1 + 1 + 1, i, none⟩) (by simp [W5])]
  simp [W5, cell_push]

noncomputable def fairB (G : Gr) : Bool := lightB G && validB G
theorem fairB_iff {G : Gr} : fairB G = true ↔ lightB G = true ∧ ValidG G := by simp [fairB, validB_iff]

end Go.Proofs.Ytfbbkiibhdgojaa
namespace Go.Proofs.Ytfbbkiibhdgojaa

theorem Reach.step_front {G : Gr} {s v : Nat} : ∀ {k t : Nat}, Adj G s v → Reach G v k t → Reach G s (k + 1) t := by
  intro k
  induction k with
  | zero => intro t ha h; rw [show t = v from h]; exact .inr ⟨s, rfl, ha⟩
  | succ k ih =>
    intro t ha h
    rcases h with h | ⟨u, hu, h⟩
    · exact .inl (ih ha h)
    · exact .inr ⟨u, ih ha hu, h⟩
theorem Adj.symm {G : Gr} (hG : ValidG G) {u v : Nat} (hu : u < G.ps.length) (h : Adj G u v) : Adj G v u := by
  obtain ⟨i, hi, e⟩ := h
  have hm := hG.mate u hu i hi
  unfold MateOk at hm
  rw [e, Int.toNat_natCast] at hm
  rcases portF_cases (rowA G.ps v) u with ⟨hp, _⟩ | ⟨k, hk, hp, hto, _⟩
  · rw [hp] at hm; omega
  · exact ⟨k, hk, hto⟩
theorem Reach.symm {G : Gr} (hG : ValidG G) {s t : Nat} (hs : s < G.ps.length) : ∀ {k : Nat}, Reach G s k t → Reach G t k s := by
  intro k
  induction k generalizing t with
  | zero => intro h; exact (show t = s from h).symm
  | succ k ih =>
    intro h
    rcases h with h | ⟨u, hu, ha⟩
    · exact .inl (ih h)
    · exact Reach.step_front (Adj.symm hG (hu.lt hG hs) ha) (ih hu)
theorem Reach.trans {G : Gr} {a b c : Nat} {k m : Nat} (h : Reach G a k b) : Reach G b m c → Reach G a (k + m) c := by
  induction m generalizing c with
  | zero => intro h2; rw [show c = b from h2]; exact h
  | succ m ih =>
    intro h2
    rcases h2 with h2 | ⟨u, hu, ha⟩
    · exact .inl (ih h2)
    · exact .inr ⟨u, ih hu, ha⟩

theorem distF_symm {G : Gr} (hG : ValidG G) {s t : Nat} (hs : s < G.ps.length) (ht : t < G.ps.length) : distF G s t = distF G t s := by
  refine distF_eq ?_
  rcases distF_is G t s with ⟨k, e, h1, h2⟩ | ⟨e, h1⟩
  · exact .inl ⟨k, e, h1.symm hG ht, fun m hm => h2 m (hm.symm hG hs)⟩
  · exact .inr ⟨e, fun m hm => h1 m (hm.symm hG hs)⟩
theorem distF_tri {G : Gr} {a b c : Nat} (h1 : 0 ≤ distF G a b) (h2 : 0 ≤ distF G b c) : 0 ≤ distF G a c ∧ distF G a c ≤ distF G a b + distF G b c := by
  rcases distF_is G a b with ⟨k, e1, r1, _⟩ | ⟨e1, _⟩
  · rcases distF_is G b c with ⟨m, e2, r2, _⟩ | ⟨e2, _⟩
    · have r3 := r1.trans r2
      rcases distF_is G a c with ⟨j, e3, _, hj⟩ | ⟨e3, hno⟩
      · have := hj _ r3; omega
      · exact absurd r3 (hno _)
    · omega
  · omega
theorem distF_low (G : Gr) (a b : Nat) : -1 ≤ distF G a b := by
  rcases distF_is G a b with ⟨k, e, _⟩ | ⟨e, _⟩ <;> omega
theorem conn_all {G : Gr} (h : connB G = true) {a b : Nat} (ha : a < G.ps.length) (hb : b < G.ps.length) : 0 ≤ distF G a b := by
  obtain ⟨hG, hc⟩ := connB_iff.1 h
  have h0 := hG.pos
  have h1 := hc a ha
  have h2 := hc b hb
  have h3 := distF_low G 0 a
  have h4 := distF_low G 0 b
  have h5 := distF_symm hG (s := a) (t := 0) ha (by omega)
  exact (distF_tri (a := a) (b := 0) (c := b) (by omega) (by omega)).1

theorem dist_chain {G : Gr} (hG : ValidG G) {s : Nat} (hs : s < G.ps.length) : ∀ (k v : Nat), distF G s v = k → ∃ l : List Nat, l.length = k + 1 ∧ l.Nodup ∧ ∀ x ∈ l, x < G.ps.length ∧ distF G s x ≤ k := by
  intro k
  induction k with
  | zero =>
    intro v hv
    rcases distF_is G s v with ⟨m, e, h1, _⟩ | ⟨e, _⟩
    · exact ⟨[v], rfl, by simp, fun x hx => by rw [List.mem_singleton.1 hx]; exact ⟨h1.lt hG hs, by omega⟩⟩
    · omega
  | succ k ih =>
    intro v hv
    rcases distF_is G s v with ⟨m, e, h1, h2⟩ | ⟨e, _⟩
    · have hm : m = k + 1 := by omega
      subst hm
      rcases h1 with h1 | ⟨u, hu, ha⟩
      · have := h2 k h1; omega
      · have hdu : distF G s u = k := by
          rcases distF_is G s u with ⟨j, e2, r, hj⟩ | ⟨e2, hno⟩
          · have := hj k hu
            have := h2 (j + 1) (.inr ⟨u, r, ha⟩)
            omega
          · exact absurd hu (hno k)
        obtain ⟨l, hl, hd, hx⟩ := ih u hdu
        have hvl : v < G.ps.length := (ha.lt hG (hu.lt hG hs)).1
        refine ⟨v :: l, by simp [hl], List.nodup_cons.2 ⟨fun hm => by have := (hx v hm).2; omega, hd⟩, fun x hm => ?_⟩
        rcases List.mem_cons.1 hm with rfl | hm
        · exact ⟨hvl, by omega⟩
        · have := hx x hm; exact ⟨this.1, by omega⟩
    · omega
theorem distF_lt {G : Gr} (hG : ValidG G) {s v : Nat} (hs : s < G.ps.length) : distF G s v < G.ps.length := by
  have hp := hG.pos
  rcases distF_is G s v with ⟨k, e, _, _⟩ | ⟨e, _⟩
  · obtain ⟨l, hl, hd, hx⟩ := dist_chain hG hs k v e
    have := nodup_len G.ps.length l hd fun x h => (hx x h).1
    omega
  · omega
theorem maxF_lt {f : Nat → Int} {k : Nat} {b : Int} (h : ∀ i, i ≤ k → f i < b) : maxF f k < b := by
  obtain ⟨i, hi, e⟩ := maxF_at f k
  rw [e]; exact h i hi
theorem diamF_lt {G : Gr} (h : connB G = true) : diamF G < G.ps.length := by
  have hG := (connB_iff.1 h).1
  have hp := hG.pos
  unfold diamF
  rw [if_pos h]
  exact maxF_lt fun i hi => maxF_lt fun j hj => distF_lt hG (by omega)

/-- the eccentricity of node v, as a plain number -/
noncomputable def eF (G : Gr) (v : Nat) : Int := maxF (distF G v) (G.ps.length - 1)
theorem eF_bounds {G : Gr} (h : connB G = true) {v : Nat} (hv : v < G.ps.length) : 0 ≤ eF G v ∧ eF G v ≤ diamF G ∧ diamF G ≤ 2 * eF G v := by
  have hd : diamF G = maxF (eF G) (G.ps.length - 1) := by unfold diamF; rw [if_pos h]; rfl
  have h0 : distF G v v = 0 := dist_self G v
  have h1 : distF G v v ≤ eF G v := maxF_ge (f := distF G v) (by omega)
  have h2 : eF G v ≤ diamF G := by rw [hd]; exact maxF_ge (f := eF G) (by omega)
  refine ⟨by omega, h2, ?_⟩
  obtain ⟨u, hu, e⟩ := maxF_at (eF G) (G.ps.length - 1)
  obtain ⟨t, ht, e2⟩ := maxF_at (distF G u) (G.ps.length - 1)
  have hG := (connB_iff.1 h).1
  have h3 := distF_symm hG (s := u) (t := v) (by omega) hv
  have h4 := conn_all h (a := u) (b := v) (by omega) hv
  have h5 := conn_all h (a := v) (b := t) hv (by omega)
  have h6 := (distF_tri (a := u) (b := v) (c := t) h4 h5).2
  have h7 : distF G v u ≤ eF G v := maxF_ge (f := distF G v) (by omega)
  have h8 : distF G v t ≤ eF G v := maxF_ge (f := distF G v) (by omega)
  have h9 : eF G u = distF G u t := e2
  omega
theorem eF_attained {G : Gr} (h : connB G = true) : ∃ v, v < G.ps.length ∧ eF G v = diamF G := by
  have hd : diamF G = maxF (eF G) (G.ps.length - 1) := by unfold diamF; rw [if_pos h]; rfl
  obtain ⟨u, hu, e⟩ := maxF_at (eF G) (G.ps.length - 1)
  have hp := (connB_iff.1 h).1.pos
  exact ⟨u, by omega, by rw [hd, e]⟩
theorem ecc_eq {G : Gr} (h : connB G = true) {v : Nat} (hv : v < G.ps.length) : eccF G v = eF G v := by
  unfold eccF
  rw [if_pos ⟨h, inB_mk (by omega)⟩, Int.toNat_natCast]
  rfl

end Go.Proofs.Ytfbbkiibhdgojaa
namespace Go.Proofs.Ytfbbkiibhdgojaa
open Go.RowKit

set_option maxHeartbeats 400000 in
theorem distancesOf_any (ia pa : Option Addr) (il ic pl pc : Nat) (G : Gr) (s : Nat) (w : World) (hG : GraphAt w ia il pa pl G) (hV : ValidG G) (hs : s < pl) :
    Calls Try.prog 15 #[.agg #[.slice ia il ic, .slice pa pl pc], .int .i64 s] w fun e w' => (∃ blk, e = .returned (.slice (some ⟨blk, 0, none⟩) pl pl) ∧ w.heap.size ≤ blk ∧ MadeAt w' blk pl (distF G s)) ∧ Below w.heap.size w w' := by
  have HV := Lib.hid hV
  have hv := validB_mk hV
  have hi : inB s 0 (pl - 1) = true := inB_mk (by omega)
  clear hV
  go_enter Try.func15, Try.ntmps15
  go_wp2_with (first | (go_at_call 18; refine (valid_any _ _ _ _ _ _ G _ (hG.alloc _)).mono ?_; rintro e w1 ⟨rfl, hb1⟩; have hbx : Below (w.heap.size + 1) (w.alloc (.cells #[.slice ia il ic, .slice pa pl pc] 25)) w1 := hb1.mono (by simp); have hx0 : w1.cell? ⟨w.heap.size, 0, none⟩ = some (.slice ia il ic) := boxed hbx 0; have hx1 : w1.cell? ⟨w.heap.size, 1, none⟩ = some (.slice pa pl pc) := boxed hbx 1) | (go_at_call 27; refine (has_any _ _ _ _ _ _ _ _).mono ?_; rintro e w2 ⟨rfl, hb2⟩; have hbx2 := hbx.trans (hb2.mono (Nat.le_trans (by simp) hbx.size)); have hy0 : w2.cell? ⟨w.heap.size, 0, none⟩ = some (.slice ia il ic) := boxed hbx2 0; have hy1 : w2.cell? ⟨w.heap.size, 1, none⟩ = some (.slice pa pl pc) := boxed hbx2 1) | (go_at_call 28; refine (distances_any _ _ _ _ _ _ G s _ (hG.below (belBox hbx2)) HV.out hs).mono ?_; rintro e w3 ⟨⟨fb, rfl, hfb, hM⟩, hb3⟩; have HM := Lib.hid hM; clear hM))
  go_ret
  exact ⟨⟨fb, rfl, Nat.le_trans (belBox hbx2).size hfb, HM.out⟩, (belBox hbx2).trans (hb3.mono (belBox hbx2).size)⟩

set_option maxHeartbeats 400000 in
theorem mod_any (k : Int) (n : Nat) (w : World) (hk : I64 k) (hn : 1 ≤ n) (hn2 : n ≤ 1000000) :
    Calls Try.prog 14 #[.int .i64 k, .int .i64 n] w fun e w' => e = .returned (.int .i64 (k % n)) ∧ w = w' := by
  obtain ⟨h1, h2⟩ := hk
  have hn0 : (1 : Int) ≤ n := by omega
  have hne : ((n : Int) == 0) = false := by simp; omega
  have ht : k.tmod n < n := Int.tmod_lt_of_pos k (by omega)
  have ht2 : -(n : Int) < k.tmod n := Int.lt_tmod_of_pos k (by omega)
  by_cases h0 : 0 ≤ k
  · have e1 : 0 ≤ k % (n : Int) := Int.emod_nonneg k (by omega)
    go_enter Try.func14, Try.ntmps14
    go_wp2
    go_ret
    exact ⟨rfl, rfl⟩
  · have he : k % (n : Int) = if k.tmod n < 0 then k.tmod n + n else k.tmod n := by
      rw [Int.tmod_eq_emod]
      have e1 := Int.emod_nonneg k (b := (n : Int)) (by omega)
      have e2 := Int.emod_lt_of_pos k (b := (n : Int)) (by omega)
      by_cases hd : (n : Int) ∣ k
      · have := Int.emod_eq_zero_of_dvd hd
        simp [h0, hd]; omega
      · simp [h0, hd]; omega
    have He := Lib.hid he
    clear he
    by_cases ht0 : k.tmod n < 0
    · go_enter Try.func14, Try.ntmps14
      go_wp2
      go_ret
      exact ⟨ret_int (by rw [He.out, if_pos ht0]), rfl⟩
    · go_enter Try.func14, Try.ntmps14
      go_wp2
      go_ret
      exact ⟨ret_int (by rw [He.out, if_neg (by omega)]), rfl⟩

theorem mod_nat (k : Int) {n : Nat} (hn : 1 ≤ n) : ∃ s : Nat, k % (n : Int) = s ∧ s < n := by
  have e1 := Int.emod_nonneg k (b := (n : Int)) (by omega)
  have e2 := Int.emod_lt_of_pos k (b := (n : Int)) (by omega)
  exact ⟨(k % (n : Int)).toNat, by omega, by omega⟩

theorem distF_zero {G : Gr} {s v : Nat} : distF G s v = 0 ↔ v = s := by
  constructor
  · intro h
    rcases distF_is G s v with ⟨k, e, h1, _⟩ | ⟨e, _⟩
    · rw [show k = 0 by omega] at h1; exact h1
    · omega
  · rintro rfl; exact dist_self G v
theorem distF_adj {G : Gr} (hG : ValidG G) {s v u : Nat} (hv : v < G.ps.length) (h : Adj G v u) : (0 ≤ distF G s v → 0 ≤ distF G s u ∧ distF G s u ≤ distF G s v + 1) := by
  intro h0
  have h1 : distF G v u = 1 := dist_adj h (h.lt hG hv).2
  have := distF_tri (a := s) (b := v) (c := u) h0 (by omega)
  omega
theorem distF_near {G : Gr} (hG : ValidG G) {s v : Nat} (hs : s < G.ps.length) (h : 0 < distF G s v) : ∃ u, Adj G v u ∧ distF G s u = distF G s v - 1 := by
  rcases distF_is G s v with ⟨k, e, h1, h2⟩ | ⟨e, _⟩
  · obtain ⟨m, rfl⟩ : ∃ m, k = m + 1 := ⟨k - 1, by omega⟩
    rcases h1 with h1 | ⟨u, hu, ha⟩
    · have := h2 m h1; omega
    · refine ⟨u, ha.symm hG (hu.lt hG hs), ?_⟩
      rw [e]
      refine distF_eq (.inl ⟨m, by omega, hu, fun j hj => ?_⟩)
      have := h2 (j + 1) (.inr ⟨u, hj, ha⟩)
      omega
  · omega
end Go.Proofs.Ytfbbkiibhdgojaa
