/- Renumbering in place, as the program does it: the rows that are copied and changed, and the lists that point to them. -/
import Derived.Test.YtfbbkiibhdgojaaRelMath
import Derived.Test.YtfbbkiibhdgojaaMadeTwo
import Derived.Test.YtfbbkiibhdgojaaPlain
import Derived.Test.YtfbbkiibhdgojaaKeep2
namespace Go.Proofs.Ytfbbkiibhdgojaa
open Go.RowKit

/-! ### Lists -/
def zsP (G : Gr) (zs : List Int) (k : Nat) : List Int := (List.range G.ps.length).map fun u => if invP zs u < k then idA G.ids (invP zs u) else 0
def hsP (G : Gr) (zs : List Int) (V : Nat → Value) (k : Nat) : List Value := (List.range G.ps.length).map fun u => if invP zs u < k then V (invP zs u) else .slice none 0 0
/-- row v when the first k rows, and i links of row k, are done -/
def mixR (G : Gr) (zs : List Int) (k i v : Nat) : List (Int × Int) := if v < k then mvR zs (rowA G.ps v) else if v = k then mvR zs ((rowA G.ps v).take i) ++ (rowA G.ps v).drop i else rowA G.ps v
def usP (G : Gr) (zs : List Int) (V : Nat → Value) (k i : Nat) : List (Value × List (Int × Int)) := (List.range G.ps.length).map fun v => (V v, mixR G zs k i v)
theorem zsP_len (G : Gr) (zs : List Int) (k : Nat) : (zsP G zs k).length = G.ps.length := by simp [zsP]
theorem hsP_len (G : Gr) (zs : List Int) (V : Nat → Value) (k : Nat) : (hsP G zs V k).length = G.ps.length := by simp [hsP]
theorem usP_len (G : Gr) (zs : List Int) (V : Nat → Value) (k i : Nat) : (usP G zs V k i).length = G.ps.length := by simp [usP]
theorem zsP_zero (G : Gr) (zs : List Int) : zsP G zs 0 = List.replicate G.ps.length 0 := by
  refine List.ext_getElem? fun i => ?_
  by_cases h : i < G.ps.length <;> simp [zsP, h]
theorem hsP_zero (G : Gr) (zs : List Int) (V : Nat → Value) : hsP G zs V 0 = (bare G.ps.length).map Prod.fst := by
  rw [bare_fst]
  refine List.ext_getElem? fun i => ?_
  by_cases h : i < G.ps.length <;> simp [hsP, h]
theorem inv_step {zs : List Int} {n k u d : Nat} (h : permOk zs n) (hk : k < n) (hu : u < n) (hd : idA zs k = d) : (u = d → invP zs u = k) ∧ (u ≠ d → (invP zs u < k + 1 ↔ invP zs u < k)) := by
  have hi := inv_iff h hk hu
  rw [hd, Int.toNat_natCast] at hi
  refine ⟨fun e => hi.2 e, fun e => ?_⟩
  have : invP zs u ≠ k := fun h2 => e (hi.1 h2)
  omega
theorem zsP_step {G : Gr} {zs : List Int} (h : permOk zs G.ps.length) {k d : Nat} (hk : k < G.ps.length) (hd : idA zs k = d) : (zsP G zs k).set d (idA G.ids k) = zsP G zs (k + 1) := by
  refine List.ext_getElem? fun u => ?_
  by_cases hu : u < G.ps.length
  · obtain ⟨h1, h2⟩ := inv_step h hk hu hd
    by_cases e : u = d
    · subst e
      rw [List.getElem?_set_self (by rw [zsP_len]; exact hu)]
      simp [zsP, hu, h1 rfl]
    · rw [List.getElem?_set_ne (fun h => e h.symm)]
      simp [zsP, hu, h2 e]
  · rw [List.getElem?_eq_none (by rw [List.length_set, zsP_len]; omega), List.getElem?_eq_none (by rw [zsP_len]; omega)]
theorem hsP_step {G : Gr} {zs : List Int} {V : Nat → Value} (h : permOk zs G.ps.length) {k d : Nat} (hk : k < G.ps.length) (hd : idA zs k = d) : (hsP G zs V k).set d (V k) = hsP G zs V (k + 1) := by
  refine List.ext_getElem? fun u => ?_
  by_cases hu : u < G.ps.length
  · obtain ⟨h1, h2⟩ := inv_step h hk hu hd
    by_cases e : u = d
    · subst e
      rw [List.getElem?_set_self (by rw [hsP_len]; exact hu)]
      simp [hsP, hu, h1 rfl]
    · rw [List.getElem?_set_ne (fun h => e h.symm)]
      simp [hsP, hu, h2 e]
  · rw [List.getElem?_eq_none (by rw [List.length_set, hsP_len]; omega), List.getElem?_eq_none (by rw [hsP_len]; omega)]
theorem usP_at {G : Gr} {zs : List Int} {V : Nat → Value} {k i v : Nat} (hv : v < G.ps.length) : (usP G zs V k i)[v]? = some (V v, mixR G zs k i v) := by
  unfold usP
  rw [List.getElem?_map, List.getElem?_range hv]
  rfl
theorem mixR_len {G : Gr} {zs : List Int} {k i v : Nat} : (mixR G zs k i v).length = (rowA G.ps v).length := by
  unfold mixR
  split
  · rw [mvR_len]
  · split
    · rw [List.length_append, mvR_len, List.length_take, List.length_drop]
      omega
    · rfl
theorem mixR_cur {G : Gr} {zs : List Int} {k i : Nat} : mixR G zs k i k = mvR zs ((rowA G.ps k).take i) ++ (rowA G.ps k).drop i := by
  unfold mixR
  rw [if_neg (Nat.lt_irrefl k), if_pos rfl]
theorem mixR_read {G : Gr} {zs : List Int} {k i : Nat} (hi : i < (rowA G.ps k).length) : toA (mixR G zs k i k) i = toA (rowA G.ps k) i ∧ wtA (mixR G zs k i k) i = wtA (rowA G.ps k) i := by
  have e : (mixR G zs k i k).getD i (0, 0) = (rowA G.ps k).getD i (0, 0) := by
    rw [mixR_cur, List.getD_eq_getElem?_getD, List.getD_eq_getElem?_getD, List.getElem?_append_right (by rw [mvR_len, List.length_take]; omega), mvR_len, List.length_take, List.getElem?_drop]
    congr 2
    omega
  unfold toA wtA
  rw [e]
  exact ⟨rfl, rfl⟩
theorem mixR_step {G : Gr} {zs : List Int} {k i : Nat} (hi : i < (rowA G.ps k).length) : (mixR G zs k i k).set i (idA zs (toA (rowA G.ps k) i).toNat, wtA (rowA G.ps k) i) = mixR G zs k (i + 1) k := by
  rw [mixR_cur, mixR_cur, List.take_succ_eq_append_getElem hi]
  unfold mvR
  rw [List.map_append]
  have hl : ((rowA G.ps k).take i).length = i := by rw [List.length_take]; omega
  rw [List.set_append_right _ _ (by rw [List.length_map, hl]; exact Nat.le_refl _), List.length_map, hl, Nat.sub_self, List.drop_eq_getElem_cons hi, List.set_cons_zero]
  simp [toA, wtA, List.getD, hi]
theorem usP_step {G : Gr} {zs : List Int} {V : Nat → Value} {k i : Nat} (hk : k < G.ps.length) (hi : i < (rowA G.ps k).length) : (usP G zs V k i).set k (V k, (mixR G zs k i k).set i (idA zs (toA (rowA G.ps k) i).toNat, wtA (rowA G.ps k) i)) = usP G zs V k (i + 1) := by
  rw [mixR_step hi]
  refine List.ext_getElem? fun v => ?_
  by_cases hv : v < G.ps.length
  · by_cases e : v = k
    · subst e
      rw [List.getElem?_set_self (by rw [usP_len]; exact hv), usP_at hv]
    · rw [List.getElem?_set_ne (fun h => e h.symm), usP_at hv, usP_at hv]
      simp [mixR, e]
  · rw [List.getElem?_eq_none (by rw [List.length_set, usP_len]; omega), List.getElem?_eq_none (by rw [usP_len]; omega)]
theorem usP_next {G : Gr} {zs : List Int} {V : Nat → Value} {k : Nat} : usP G zs V k (rowA G.ps k).length = usP G zs V (k + 1) 0 := by
  unfold usP
  refine List.map_congr_left fun v _ => ?_
  have e : mixR G zs k (rowA G.ps k).length v = mixR G zs (k + 1) 0 v := by
    unfold mixR
    by_cases h1 : v < k
    · rw [if_pos h1, if_pos (by omega)]
    · by_cases h2 : v = k
      · subst h2
        rw [if_neg h1, if_pos rfl, if_pos (by omega), List.take_length, List.drop_length, List.append_nil]
      · rw [if_neg h1, if_neg h2, if_neg (by omega)]
        by_cases h3 : v = k + 1
        · rw [if_pos h3, List.take_zero, List.drop_zero]
          rfl
        · rw [if_neg h3]
  rw [e]
theorem usP_zero {G : Gr} {zs : List Int} {us : List (Value × List (Int × Int))} (hu : us.map Prod.snd = G.ps) : us = usP G zs (fun v => (us.getD v (.slice none 0 0, [])).1) 0 0 := by
  have hl : us.length = G.ps.length := by rw [← hu]; simp
  refine List.ext_getElem? fun v => ?_
  by_cases hv : v < G.ps.length
  · rw [usP_at hv, List.getElem?_eq_getElem (by omega)]
    have e : us[v]'(by omega) = ((us.getD v (.slice none 0 0, [])).1, rowA G.ps v) := by
      have h1 : us.getD v (.slice none 0 0, []) = us[v]'(by omega) := by simp [List.getD, show v < us.length by omega]
      have h2 : rowA G.ps v = (us[v]'(by omega)).2 := by
        unfold rowA
        rw [← hu]
        simp [List.getD, show v < us.length by omega]
      rw [h1, h2]
    rw [e]
    have e2 : mixR G zs 0 0 v = rowA G.ps v := by
      unfold mixR
      rw [if_neg (Nat.not_lt_zero _)]
      split
      · rw [List.take_zero, List.drop_zero]
        rfl
      · rfl
    rw [e2]
  · rw [List.getElem?_eq_none (by omega), List.getElem?_eq_none (by rw [usP_len]; omega)]

/-! ### Memory -/
/-- the rows in the order of the new numbers -/
def usQ (G : Gr) (zs : List Int) (V : Nat → Value) : List (Value × List (Int × Int)) := (List.range G.ps.length).map fun u => (V (invP zs u), movR G zs u)
theorem usQ_fst {G : Gr} {zs : List Int} {V : Nat → Value} (h : permOk zs G.ps.length) : (usQ G zs V).map Prod.fst = hsP G zs V G.ps.length := by
  unfold usQ hsP
  rw [List.map_map]
  refine List.map_congr_left fun u hu => ?_
  rw [List.mem_range] at hu
  have := inv_lt h hu
  rw [if_pos (by have := perm_len h; omega)]
  rfl
theorem usQ_snd {G : Gr} {zs : List Int} {V : Nat → Value} : (usQ G zs V).map Prod.snd = (movG G zs).ps := by
  unfold usQ movG
  rw [List.map_map]
  rfl
theorem zsP_all {G : Gr} {zs : List Int} (h : permOk zs G.ps.length) : zsP G zs G.ps.length = (movG G zs).ids := by
  unfold zsP movG
  refine List.map_congr_left fun u hu => ?_
  rw [List.mem_range] at hu
  have := inv_lt h hu
  rw [if_pos (by have := perm_len h; omega)]
theorem usP_last {G : Gr} {zs : List Int} {V : Nat → Value} {v : Nat} (hv : v < G.ps.length) : (usP G zs V G.ps.length 0)[v]? = some (V v, mvR zs (rowA G.ps v)) := by
  rw [usP_at hv]
  unfold mixR
  rw [if_pos hv]
theorem Made.turned {G : Gr} {zs : List Int} {V : Nat → Value} {W w : World} {gb : Nat} {x1 x2 v1 v2 : Value} {ys : List Int} {hs : List Value} (hp : permOk zs G.ps.length) (h : Made W gb w x1 x2 v1 ys v2 hs (usP G zs V G.ps.length 0)) : Made W gb w x1 x2 v1 ys v2 hs (usQ G zs V) := by
  have hl := perm_len hp
  have hmem : ∀ u, u < G.ps.length → (V (invP zs u), movR G zs u) ∈ usP G zs V G.ps.length 0 := fun u hu => by
    have hi := inv_lt hp hu
    have := usP_last (G := G) (zs := zs) (V := V) (v := invP zs u) (by omega)
    exact List.mem_of_getElem? this
  have hsub : ∀ r ∈ idsR v1 ys :: hdrR v2 hs :: (usQ G zs V).map lnkR, r ∈ idsR v1 ys :: hdrR v2 hs :: (usP G zs V G.ps.length 0).map lnkR := fun r hr => by
    rcases List.mem_cons.1 hr with rfl | hr
    · simp
    · rcases List.mem_cons.1 hr with rfl | hr
      · simp
      · obtain ⟨x, hx, rfl⟩ := List.mem_map.1 hr
        obtain ⟨u, hu, rfl⟩ := List.mem_map.1 hx
        exact lnk_mem (hmem u (List.mem_range.1 hu))
  have hsep := h.rows.sep
  refine ⟨h.fr, h.hB, h.c0, h.c1, h.f0, h.f1, ⟨fun r hr => h.rows.own r (hsub r hr), ?_⟩, fun r hr => h.far r (hsub r hr)⟩
  rw [List.pairwise_cons] at hsep ⊢
  obtain ⟨s1, s2⟩ := hsep
  rw [List.pairwise_cons] at s2 ⊢
  obtain ⟨s2, s3⟩ := s2
  refine ⟨fun r hr => s1 r ?_, fun r hr => s2 r ?_, ?_⟩
  · rcases List.mem_cons.1 hr with rfl | hr
    · simp
    · obtain ⟨x, hx, rfl⟩ := List.mem_map.1 hr
      obtain ⟨u, hu, rfl⟩ := List.mem_map.1 hx
      exact List.mem_cons_of_mem _ (List.mem_map.2 ⟨_, hmem u (List.mem_range.1 hu), rfl⟩)
  · obtain ⟨x, hx, rfl⟩ := List.mem_map.1 hr
    obtain ⟨u, hu, rfl⟩ := List.mem_map.1 hx
    exact List.mem_map.2 ⟨_, hmem u (List.mem_range.1 hu), rfl⟩
  · have apart : ∀ a b, a < G.ps.length → b < G.ps.length → a ≠ b → apartV (V a) (V b) := by
      intro a b ha hb hab
      have key : ∀ a b, a < b → b < G.ps.length → apartV (V a) (V b) := fun a b hab hb => by
        have := (List.pairwise_iff_getElem.1 s3) a b (by rw [List.length_map, usP_len]; omega) (by rw [List.length_map, usP_len]; exact hb) hab
        rw [List.getElem_map, List.getElem_map] at this
        have e1 : (usP G zs V G.ps.length 0)[a]'(by rw [usP_len]; omega) = (V a, mvR zs (rowA G.ps a)) := by
          have := usP_last (G := G) (zs := zs) (V := V) (v := a) (by omega)
          rw [List.getElem?_eq_getElem (by rw [usP_len]; omega)] at this
          simpa using this
        have e2 : (usP G zs V G.ps.length 0)[b]'(by rw [usP_len]; exact hb) = (V b, mvR zs (rowA G.ps b)) := by
          have := usP_last (G := G) (zs := zs) (V := V) (v := b) hb
          rw [List.getElem?_eq_getElem (by rw [usP_len]; exact hb)] at this
          simpa using this
        rw [e1, e2] at this
        exact this
      rcases Nat.lt_or_gt_of_ne hab with h1 | h1
      · exact key a b h1 hb
      · exact (key b a h1 ha).symm
    refine List.pairwise_iff_getElem.2 fun i j hi hj hij => ?_
    rw [List.length_map] at hi hj
    have hi' : i < G.ps.length := by simpa [usQ] using hi
    have hj' : j < G.ps.length := by simpa [usQ] using hj
    rw [List.getElem_map, List.getElem_map]
    have e1 : ((usQ G zs V)[i]'hi) = (V (invP zs i), movR G zs i) := by simp [usQ]
    have e2 : ((usQ G zs V)[j]'hj) = (V (invP zs j), movR G zs j) := by simp [usQ]
    rw [e1, e2]
    have h1 := inv_lt hp hi'
    have h2 := inv_lt hp hj'
    refine apart _ _ (by omega) (by omega) (fun e => ?_)
    have a1 := inv_at hp hi'
    have a2 := inv_at hp hj'
    rw [e, a2] at a1
    omega
/-- rows that a call has made in the place of empty ones -/
theorem Made.rowsNew {W w w' : World} {gb n : Nat} {x1 x2 v1 v2 v3 : Value} {zs : List Int} {hs hs3 : List Value} {us : List (Value × List (Int × Int))} (h : Made W gb w x1 x2 v1 zs v2 hs (bare n)) (hb : Below w.heap.size w w') (ha : Apart w.heap.size w' (hdrR v3 hs3 :: us.map lnkR)) : Made W gb w' x1 x2 v1 zs v2 hs us := by
  have h' := h.below hb
  have hgt := h.gt
  have hlt1 : ∀ k, v1.ownBlock = some k → k < w.heap.size := fun k e => (World.ownsRow.lt h.ids k e).2
  have hlt2 : ∀ k, v2.ownBlock = some k → k < w.heap.size := fun k e => (World.ownsRow.lt h.hdr k e).2
  have hge : ∀ r ∈ us.map lnkR, ∀ k, r.v.ownBlock = some k → w.heap.size ≤ k := fun r hr k e => (World.ownsRow.lt (ha.own r (List.mem_cons_of_mem _ hr)) k e).1
  have hsep := h'.rows.sep
  rw [List.pairwise_cons] at hsep
  obtain ⟨s1, _⟩ := hsep
  refine ⟨h'.fr, h'.hB, h'.c0, h'.c1, h'.f0, h'.f1, ⟨fun r hr => ?_, ?_⟩, fun r hr => ?_⟩
  · rcases List.mem_cons.1 hr with rfl | hr
    · exact h'.ids
    · rcases List.mem_cons.1 hr with rfl | hr
      · exact h'.hdr
      · exact Go.Joins.ownsRow_le (ha.own r (List.mem_cons_of_mem _ hr)) h.fr.size
  · have far : ∀ (a : Value), (∀ k, a.ownBlock = some k → k < w.heap.size) → ∀ r ∈ us.map lnkR, apartV a r.v := fun a hlt r hr => by
      cases e : a.ownBlock with
      | none => exact .inl e
      | some k =>
        refine .inr fun e2 => ?_
        rw [e] at e2
        have := hge r hr k e2.symm
        have := hlt k e
        omega
    refine List.pairwise_cons.2 ⟨fun r hr => ?_, List.pairwise_cons.2 ⟨fun r hr => far v2 hlt2 r hr, (List.pairwise_cons.1 ha.sep).2⟩⟩
    rcases List.mem_cons.1 hr with rfl | hr
    · exact s1 _ (by simp)
    · exact far v1 hlt1 r hr
  · rcases List.mem_cons.1 hr with rfl | hr
    · exact h'.far _ (by simp)
    · rcases List.mem_cons.1 hr with rfl | hr
      · exact h'.far _ (by simp)
      · intro e
        have := hge r hr gb e
        omega
theorem linkVs_to (ys : List (Int × Int)) (k : Nat) (t : Int) : (linkVs ys).set (k * 2) (.int .i64 t) = linkVs (ys.set k (t, wtA ys k)) := by
  induction ys generalizing k with
  | nil => simp [linkVs]
  | cons y ys ih =>
    have e : linkVs (y :: ys) = .int .i64 y.1 :: .int .i64 y.2 :: linkVs ys := rfl
    cases k with
    | zero => rfl
    | succ k =>
      have e2 : linkVs ((y :: ys).set (k + 1) (t, wtA (y :: ys) (k + 1))) = .int .i64 y.1 :: .int .i64 y.2 :: linkVs (ys.set k (t, wtA ys k)) := rfl
      rw [e, e2, ← ih k, show (k + 1) * 2 = k * 2 + 1 + 1 by omega, List.set_cons_succ, List.set_cons_succ]
/-- the end of a link of a row of the call's own is stored -/
theorem Made.storeTo {W w : World} {gb i g n cap k : Nat} {x1 x2 v1 v2 : Value} {zs : List Int} {hs : List Value} {us : List (Value × List (Int × Int))} {ys : List (Int × Int)} (h : Made W gb w x1 x2 v1 zs v2 hs us) (hi : us[i]? = some (.slice (some ⟨g, 0, none⟩) n cap, ys)) (hn : n = ys.length) (t : Int) :
    Made W gb (w.setCell ⟨g, k * 2, none⟩ (.int .i64 t)) x1 x2 v1 zs v2 hs (us.set i (.slice (some ⟨g, 0, none⟩) n cap, ys.set k (t, wtA ys k))) := by
  subst hn
  obtain ⟨hlt, hu⟩ := List.getElem?_eq_some_iff.1 hi
  have ho : w.ownsRow W.heap.size 41 2 (.slice (some ⟨g, 0, none⟩) ys.length cap) ys.length (linkVs ys) := h.lnk (u := (.slice (some ⟨g, 0, none⟩) ys.length cap, ys)) (List.mem_of_getElem? hi)
  obtain ⟨o1, g1⟩ := World.ownsRow.stored ho (k * 2) (.int .i64 t)
  refine h.turn hlt _ (by rw [hu]; exact g1) ?_ (fun g' e => .inl (by rw [hu]; exact e))
  unfold LinkOwn Rw.Held lnkR
  rw [linkVs_to] at o1
  simpa using o1
end Go.Proofs.Ytfbbkiibhdgojaa
