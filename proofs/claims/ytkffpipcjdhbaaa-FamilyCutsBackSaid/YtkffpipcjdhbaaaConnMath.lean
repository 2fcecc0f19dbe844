/- A link more: the graph stays valid, to cut the link gives the graph back, no distance grows. No program in sight. -/
import Derived.Test.YtkffpipcjdhbaaaFamCut
import Derived.Test.YtkffpipcjdhbaaaFamConn
import Derived.Test.YtkffpipcjdhbaaaGraph8
namespace Go.Proofs.Ytkffpipcjdhbaaa
open Go.RowKit

theorem toA_left (xs : List (Int × Int)) (q : Int × Int) {i : Nat} (h : i < xs.length) : toA (xs ++ [q]) i = toA xs i ∧ wtA (xs ++ [q]) i = wtA xs i := by
  have e : (xs ++ [q]).getD i (0, 0) = xs.getD i (0, 0) := by simp [List.getD, List.getElem?_append_left h]
  exact ⟨congrArg Prod.fst e, congrArg Prod.snd e⟩
theorem toA_last (xs : List (Int × Int)) (q : Int × Int) : toA (xs ++ [q]) xs.length = q.1 ∧ wtA (xs ++ [q]) xs.length = q.2 := by
  have e : (xs ++ [q]).getD xs.length (0, 0) = q := by simp [List.getD]
  exact ⟨congrArg Prod.fst e, congrArg Prod.snd e⟩
theorem portF_left {xs : List (Int × Int)} {q : Int × Int} {u : Int} (h : 0 ≤ portF xs u) : portF (xs ++ [q]) u = portF xs u := by
  rcases portF_cases xs u with ⟨e, _⟩ | ⟨k, hk, e, ht, hn⟩
  · omega
  · rw [e]
    exact portF_found (by simp; omega) (by rw [(toA_left xs q hk).1]; exact ht) (fun j hj => by rw [(toA_left xs q (by omega)).1]; exact hn j hj)
theorem portF_last {xs : List (Int × Int)} {q : Int × Int} (h : portF xs q.1 < 0) : portF (xs ++ [q]) q.1 = xs.length := by
  rcases portF_cases xs q.1 with ⟨_, hn⟩ | ⟨k, _, e, _⟩
  · exact portF_found (by simp) (toA_last xs q).1 (fun j hj => by rw [(toA_left xs q hj).1]; exact hn j hj)
  · omega
section
variable {G : Gr} {A B : Nat} {wt : Int}
theorem conn_len : (connG G A B wt).ps.length = G.ps.length := by simp [connG]
theorem conn_row {v : Nat} (hv : v < G.ps.length) : rowA (connG G A B wt).ps v = connR G A B wt v := by simp [connG, rowA, hv]
theorem conn_rowA (hA : A < G.ps.length) (hne : A ≠ B) : rowA (connG G A B wt).ps A = rowA G.ps A ++ [((B : Int), wt)] := by rw [conn_row hA]; simp [connR, connH, hne]
theorem conn_rowB (hB : B < G.ps.length) : rowA (connG G A B wt).ps B = rowA G.ps B ++ [((A : Int), wt)] := by rw [conn_row hB]; simp [connR]
theorem conn_rowO {v : Nat} (hv : v < G.ps.length) (h1 : v ≠ A) (h2 : v ≠ B) : rowA (connG G A B wt).ps v = rowA G.ps v := by rw [conn_row hv]; simp [connR, connH, h1, h2]
/-- each row is the old one, perhaps with a link more -/
theorem conn_pre {v : Nat} (hv : v < G.ps.length) (hne : A ≠ B) : rowA (connG G A B wt).ps v = rowA G.ps v ∨ (v = A ∧ rowA (connG G A B wt).ps v = rowA G.ps v ++ [((B : Int), wt)]) ∨ (v = B ∧ rowA (connG G A B wt).ps v = rowA G.ps v ++ [((A : Int), wt)]) := by
  by_cases h1 : v = A
  · subst h1; exact .inr (.inl ⟨rfl, conn_rowA hv hne⟩)
  · by_cases h2 : v = B
    · subst h2; exact .inr (.inr ⟨rfl, conn_rowB hv⟩)
    · exact .inl (conn_rowO hv h1 h2)
theorem conn_links {xs : List (Int × Int)} {v n : Nat} {q : Int × Int} (h : LinksOk xs v n) (hq : 0 ≤ q.1 ∧ q.1 ≤ (n : Int) - 1) (hv : q.1 ≠ v) (hw : 1 ≤ q.2 ∧ q.2 ≤ 15) (hp : portF xs q.1 < 0) : LinksOk (xs ++ [q]) v n := by
  intro i hi
  rw [List.length_append, List.length_singleton] at hi
  unfold LinkOk
  rcases Nat.lt_or_ge i xs.length with hl | hl
  · rw [(toA_left xs q hl).1, (toA_left xs q hl).2]
    obtain ⟨h1, h2, h3, h4⟩ := h i hl
    exact ⟨h1, h2, h3, fun k hk => by rw [(toA_left xs q (by omega)).1]; exact h4 k hk⟩
  · obtain rfl : i = xs.length := by omega
    rw [(toA_last xs q).1, (toA_last xs q).2]
    refine ⟨hq, hv, hw, fun k hk => ?_⟩
    rw [(toA_left xs q hk).1]
    rcases portF_cases xs q.1 with ⟨_, hn⟩ | ⟨m, _, e, _⟩
    · exact hn k hk
    · omega
theorem conn_valid (hV : ValidG G) (hA : A < G.ps.length) (hB : B < G.ps.length) (hne : A ≠ B) (hp : portF (rowA G.ps A) B < 0) (hw : 1 ≤ wt ∧ wt ≤ 15) : ValidG (connG G A B wt) := by
  have hpB : portF (rowA G.ps B) A < 0 := by
    rcases Int.lt_or_le (portF (rowA G.ps B) A) 0 with h | h
    · exact h
    · have := back_link hV hB h
      omega
  refine ⟨by rw [conn_len]; exact hV.pos, by rw [conn_len]; exact hV.le, by rw [conn_len]; exact hV.ids, fun v hv => hV.id v (by rw [conn_len] at hv; exact hv), fun v hv => ?_, fun v hv i hi => ?_⟩
  · rw [conn_len] at hv ⊢
    rcases conn_pre (A := A) (B := B) (wt := wt) hv hne with e | ⟨rfl, e⟩ | ⟨rfl, e⟩
    · rw [e]; exact hV.links v hv
    · rw [e]; exact conn_links (hV.links v hv) ⟨by show 0 ≤ (B : Int); omega, by show (B : Int) ≤ _; omega⟩ (by show (B : Int) ≠ v; omega) hw hp
    · rw [e]; exact conn_links (hV.links v hv) ⟨by show 0 ≤ (A : Int); omega, by show (A : Int) ≤ _; omega⟩ (by show (A : Int) ≠ v; omega) hw hpB
  · rw [conn_len] at hv
    -- the old links: their mates are where they were
    have old : ∀ j, j < (rowA G.ps v).length → toA (rowA (connG G A B wt).ps v) j = toA (rowA G.ps v) j → wtA (rowA (connG G A B wt).ps v) j = wtA (rowA G.ps v) j → MateOk (connG G A B wt) v j := fun j hj e1 e2 => by
      have hm := hV.mate v hv j hj
      have hk := hV.links v hv j hj
      unfold LinkOk at hk
      unfold MateOk at hm ⊢
      rw [e1, e2]
      generalize (toA (rowA G.ps v) j).toNat = u at hm hk ⊢
      have hu : u < G.ps.length ∨ ¬ u < G.ps.length := Nat.lt_or_ge u _ |>.imp id (fun h => by omega)
      rcases hu with hu | hu
      · have hkl : (portF (rowA G.ps u) v).toNat < (rowA G.ps u).length := by have := portF_ge (rowA G.ps u) v; omega
        rcases conn_pre (A := A) (B := B) (wt := wt) hu hne with e | ⟨_, e⟩ | ⟨_, e⟩
        · rw [e]; exact hm
        · rw [e, portF_left hm.1]; exact ⟨hm.1, by rw [(toA_left _ _ hkl).2]; exact hm.2⟩
        · rw [e, portF_left hm.1]; exact ⟨hm.1, by rw [(toA_left _ _ hkl).2]; exact hm.2⟩
      · have e0 : rowA G.ps u = [] := by simp [rowA, List.getD, List.getElem?_eq_none (Nat.le_of_not_lt hu)]
        rw [e0] at hm
        have := portF_ge [] (v : Int)
        simp at this
        omega
    rcases conn_pre (A := A) (B := B) (wt := wt) hv hne with e | ⟨rfl, e⟩ | ⟨rfl, e⟩
    · rw [e] at hi
      exact old i hi (by rw [e]) (by rw [e])
    · rw [e, List.length_append, List.length_singleton] at hi
      rcases Nat.lt_or_ge i (rowA G.ps v).length with hl | hl
      · exact old i hl (by rw [e]; exact (toA_left _ _ hl).1) (by rw [e]; exact (toA_left _ _ hl).2)
      · obtain rfl : i = (rowA G.ps v).length := by omega
        unfold MateOk
        rw [e, (toA_last _ _).1, (toA_last _ _).2]
        simp only [Int.toNat_natCast]
        rw [conn_rowB hB, portF_last (q := ((v : Int), wt)) hpB, Int.toNat_natCast]
        exact ⟨by omega, (toA_last _ _).2⟩
    · rw [e, List.length_append, List.length_singleton] at hi
      rcases Nat.lt_or_ge i (rowA G.ps v).length with hl | hl
      · exact old i hl (by rw [e]; exact (toA_left _ _ hl).1) (by rw [e]; exact (toA_left _ _ hl).2)
      · obtain rfl : i = (rowA G.ps v).length := by omega
        unfold MateOk
        rw [e, (toA_last _ _).1, (toA_last _ _).2]
        simp only [Int.toNat_natCast]
        rw [conn_rowA hA hne, portF_last (q := ((v : Int), wt)) hp, Int.toNat_natCast]
        exact ⟨by omega, (toA_last _ _).2⟩
theorem delR_last (xs : List (Int × Int)) (q : Int × Int) : delR (xs ++ [q]) xs.length = xs := by simp [delR]
theorem conn_cut (hV : ValidG G) (hA : A < G.ps.length) (hB : B < G.ps.length) (hne : A ≠ B) (hp : portF (rowA G.ps A) B < 0) (hw : 1 ≤ wt ∧ wt ≤ 15) : cutO (connG G A B wt) A B = .inr G := by
  have hV2 := conn_valid hV hA hB hne hp hw
  have hpB : portF (rowA G.ps B) A < 0 := by
    rcases Int.lt_or_le (portF (rowA G.ps B) A) 0 with h | h
    · exact h
    · have := back_link hV hB h
      omega
  have pA : portF (rowA (connG G A B wt).ps A) B = (rowA G.ps A).length := by rw [conn_rowA hA hne]; exact portF_last (q := ((B : Int), wt)) hp
  have pB : portF (rowA (connG G A B wt).ps B) A = (rowA G.ps B).length := by rw [conn_rowB hB]; exact portF_last (q := ((A : Int), wt)) hpB
  unfold cutO
  rw [if_pos (validB_mk hV2), conn_len]
  simp only [Int.toNat_natCast]
  rw [pA, if_pos ⟨by
    unfold nodesB
    rw [inB_mk ⟨by omega, by omega⟩, inB_mk ⟨by omega, by omega⟩]
    simp
    omega, by omega⟩]
  congr 1
  have hps : (cutG (connG G A B wt) A B).ps = G.ps := by
    refine List.ext_getElem? fun v => ?_
    unfold cutG
    rw [List.getElem?_map, conn_len]
    by_cases hv : v < G.ps.length
    · rw [List.getElem?_range hv]
      have e : G.ps[v]? = some (rowA G.ps v) := by simp [rowA, List.getD, List.getElem?_eq_getElem hv]
      rw [e]
      simp only [Option.map_some, Option.some.injEq]
      unfold cutR cutH
      rw [pA, pB, Int.toNat_natCast, Int.toNat_natCast]
      by_cases h2 : v = B
      · subst h2; rw [if_pos rfl, conn_rowB hB, delR_last]
      · rw [if_neg h2]
        by_cases h1 : v = A
        · subst h1; rw [if_pos rfl, conn_rowA hA hne, delR_last]
        · rw [if_neg h1, conn_rowO hv h1 h2]
    · rw [List.getElem?_eq_none (by simp; omega), List.getElem?_eq_none (by omega)]
      rfl
  cases G with
  | mk ids ps => exact congrArg (Gr.mk ids) hps
theorem conn_reach (hV : ValidG G) (hne : A ≠ B) {s : Nat} (hs : s < G.ps.length) : ∀ {k v : Nat}, Reach G s k v → Reach (connG G A B wt) s k v
  | 0, v, h => h
  | k + 1, v, h => by
    rcases h with h | ⟨u, hu, i, hi, e⟩
    · exact .inl (conn_reach hV hne hs h)
    · have hul := hu.lt hV hs
      refine .inr ⟨u, conn_reach hV hne hs hu, i, ?_, ?_⟩
      · rcases conn_pre (A := A) (B := B) (wt := wt) hul hne with e' | ⟨_, e'⟩ | ⟨_, e'⟩ <;> rw [e'] <;> (try simp) <;> omega
      · rcases conn_pre (A := A) (B := B) (wt := wt) hul hne with e' | ⟨_, e'⟩ | ⟨_, e'⟩ <;> rw [e']
        · exact e
        · rw [(toA_left _ _ hi).1]; exact e
        · rw [(toA_left _ _ hi).1]; exact e
theorem conn_dist (hV : ValidG G) (hne : A ≠ B) {s v : Nat} (hs : s < G.ps.length) (h : 0 ≤ distF G s v) : 0 ≤ distF (connG G A B wt) s v ∧ distF (connG G A B wt) s v ≤ distF G s v := by
  rcases distF_is G s v with ⟨k, e, h1, _⟩ | ⟨e, _⟩
  · have h2 := conn_reach (A := A) (B := B) (wt := wt) hV hne hs h1
    rcases distF_is (connG G A B wt) s v with ⟨m, e3, _, h3⟩ | ⟨_, h3⟩
    · have := h3 k h2
      omega
    · exact absurd h2 (h3 k)
  · omega
end
end Go.Proofs.Ytkffpipcjdhbaaa
