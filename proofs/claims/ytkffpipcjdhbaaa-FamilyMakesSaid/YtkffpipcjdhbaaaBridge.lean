/- Graphs and the nodes that their texts name: there and back. No program in sight. -/
import Derived.Test.YtkffpipcjdhbaaaRefT6
import Derived.Test.YtkffpipcjdhbaaaSame
namespace Go.Proofs.Ytkffpipcjdhbaaa

/-- the graph that a text's nodes are -/
def grOf (xs : List Node) : Gr := ⟨xs.map fun x => (x.1 : Int), xs.map fun x => x.2.map fun p => ((p.1 : Int), (p.2 : Int))⟩
theorem grOf_len (xs : List Node) : (grOf xs).ps.length = xs.length ∧ (grOf xs).ids.length = xs.length := by simp [grOf]
theorem grOf_id {xs : List Node} {v : Nat} (h : v < xs.length) : idA (grOf xs).ids v = (xs[v].1 : Int) := by
  simp [grOf, idA, List.getD, List.getElem?_eq_getElem h]
theorem grOf_row {xs : List Node} {v : Nat} (h : v < xs.length) : rowA (grOf xs).ps v = xs[v].2.map fun p => ((p.1 : Int), (p.2 : Int)) := by
  simp [grOf, rowA, List.getD, List.getElem?_eq_getElem h]
theorem portsOf_back (ps : List Port) : portsOf (ps.map fun p => ((p.1 : Int), (p.2 : Int))) = ps := by
  unfold portsOf
  rw [List.map_map]
  conv => rhs; rw [← List.map_id ps]
  apply List.map_congr_left
  intro p _
  simp
theorem nodes_gr (xs : List Node) : nodesOf (grOf xs) = xs := by
  apply List.ext_getElem
  · simp [nodesOf, grOf]
  · intro v h1 h2
    simp only [nodesOf, List.getElem_map, List.getElem_range]
    rw [grOf_id h2, grOf_row h2, portsOf_back]
    simp
theorem gr_nodes {G : Gr} (hV : ValidG G) : grOf (nodesOf G) = G := by
  have hl : (nodesOf G).length = G.ps.length := by simp [nodesOf]
  have h1 : (grOf (nodesOf G)).ids = G.ids := by
    refine ids_ext (by rw [(grOf_len _).2, hl, hV.ids]) (fun v hv => ?_)
    rw [(grOf_len _).2, hl] at hv
    rw [grOf_id (by omega)]
    have := hV.id v hv
    unfold IdOk at this
    simp only [nodesOf, List.getElem_map, List.getElem_range]
    omega
  have h2 : (grOf (nodesOf G)).ps = G.ps := by
    refine ports_ext (by rw [(grOf_len _).1, hl]) (fun v hv => ?_)
    rw [(grOf_len _).1, hl] at hv
    rw [grOf_row (by omega)]
    simp only [nodesOf, List.getElem_map, List.getElem_range]
    refine row_ext (by simp [portsOf]) (fun i hi => ?_)
    have hi2 : i < (rowA G.ps v).length := by simpa [portsOf] using hi
    have hok := hV.links v hv i hi2
    unfold LinkOk at hok
    have e1 : toA (rowA G.ps v) i = ((rowA G.ps v)[i]).1 := by simp [toA, List.getD, List.getElem?_eq_getElem hi2]
    have e2 : wtA (rowA G.ps v) i = ((rowA G.ps v)[i]).2 := by simp [wtA, List.getD, List.getElem?_eq_getElem hi2]
    have e3 : ((portsOf (rowA G.ps v)).map fun p => ((p.1 : Int), (p.2 : Int)))[i]? = some ((((rowA G.ps v)[i]).1.toNat : Int), (((rowA G.ps v)[i]).2.toNat : Int)) := by
      simp [portsOf, List.getElem?_eq_getElem hi2]
    have e4 : toA ((portsOf (rowA G.ps v)).map fun p => ((p.1 : Int), (p.2 : Int))) i = (((rowA G.ps v)[i]).1.toNat : Int) := by unfold toA; rw [List.getD, e3]; rfl
    have e5 : wtA ((portsOf (rowA G.ps v)).map fun p => ((p.1 : Int), (p.2 : Int))) i = (((rowA G.ps v)[i]).2.toNat : Int) := by unfold wtA; rw [List.getD, e3]; rfl
    rw [e4, e5, e1, e2]
    rw [e1, e2] at hok
    omega
  cases hA : grOf (nodesOf G) with
  | mk a b =>
    rw [hA] at h1 h2
    cases G
    simp at h1 h2
    rw [h1, h2]
theorem nodesOf_ne {G : Gr} (hV : ValidG G) : nodesOf G ≠ [] := by
  intro e
  have := congrArg List.length e
  have h1 := hV.pos
  simp [nodesOf] at this
  rw [this] at h1
  simp at h1
/-- different valid graphs have different texts -/
theorem format_inj {G K : Gr} (hG : ValidG G) (hK : ValidG K) : formatS G = formatS K ↔ G = K := by
  constructor
  · intro h
    unfold formatS at h
    rw [validB_mk hG, validB_mk hK] at h
    have h2 := fmtText_inj (nodesOf_ne hG) (nodesOf_ne hK) (small_nodes hG) (small_nodes hK) h
    rw [← gr_nodes hG, ← gr_nodes hK, h2]
  · intro h
    rw [h]
theorem sameB_eq {G K : Gr} : sameB G K = true ↔ G = K := by
  unfold sameB
  rw [decide_eq_true_iff]
  constructor
  · intro ⟨h1, h2⟩
    cases G
    cases K
    simp at h1 h2
    rw [h1, h2]
  · intro h
    rw [h]
    exact ⟨rfl, rfl⟩
/-- what is written is read back, whole and without the last line feed -/
theorem text_format {G : Gr} (hG : ValidG G) : textB (formatS G) = .inr (nodesOf G) ∧ textB (formatS G).dropLast = .inr (nodesOf G) := by
  unfold formatS
  rw [validB_mk hG]
  exact ⟨text_fmt (nodesOf_ne hG) (small_nodes hG), text_fmt_short (nodesOf_ne hG) (small_nodes hG)⟩
/-- what is read is written back -/
theorem format_text {t : Bytes} {xs : List Node} (h : textB t = .inr xs) (hV : ValidG (grOf xs)) : formatS (grOf xs) = t ∨ formatS (grOf xs) = t ++ [10] := by
  unfold formatS
  rw [validB_mk hV, if_pos rfl, nodes_gr]
  exact (fmt_text h).1
end Go.Proofs.Ytkffpipcjdhbaaa
