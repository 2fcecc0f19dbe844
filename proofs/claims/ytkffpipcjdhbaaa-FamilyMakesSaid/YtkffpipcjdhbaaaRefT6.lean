/- What Format of the specification of layer 2 answers. -/
import Derived.Test.YtkffpipcjdhbaaaRefT5
import Derived.Test.YtkffpipcjdhbaaaRef01V
import Derived.Deep.RegionHeld3
namespace Go.Proofs.Ytkffpipcjdhbaaa
open Go.RowKit

/-- the nodes that a graph's text has -/
def portsOf (xs : List (Int × Int)) : List Port := xs.map fun x => (x.1.toNat, x.2.toNat)
def nodesOf (G : Gr) : List Node := (List.range G.ps.length).map fun v => ((idA G.ids v).toNat, portsOf (rowA G.ps v))
/-- the text of the first v nodes -/
def fmtUpto (G : Gr) (v : Nat) : Bytes := fmtText ((List.range v).map fun v => ((idA G.ids v).toNat, portsOf (rowA G.ps v)))
/-- the line of node v as far as its first i ports -/
def lineUpto (G : Gr) (v i : Nat) : Bytes := nodeW ++ 32 :: (decB (idA G.ids v).toNat ++ ((portsOf (rowA G.ps v)).take i).flatMap fun p => 32 :: fmtPort p)
theorem join_flat : ∀ (w : Bytes) (ws : List Bytes), joinB 32 (w :: ws) = w ++ ws.flatMap fun x => 32 :: x
  | w, [] => by simp [joinB]
  | w, v :: ws => by
    rw [joinB, join_flat v ws, List.flatMap_cons]
    simp
theorem line_whole (G : Gr) (v : Nat) : lineUpto G v (rowA G.ps v).length = fmtLine ((idA G.ids v).toNat, portsOf (rowA G.ps v)) := by
  unfold lineUpto fmtLine
  rw [join_flat, List.flatMap_cons, List.flatMap_map, List.take_of_length_le (by simp [portsOf])]
  simp
theorem fmt_succ (G : Gr) (v : Nat) : fmtUpto G (v + 1) = fmtUpto G v ++ (fmtLine ((idA G.ids v).toNat, portsOf (rowA G.ps v)) ++ [10]) := by
  unfold fmtUpto fmtText
  rw [List.range_succ, List.map_append, List.flatMap_append]
  simp
theorem line_succ (G : Gr) (v i : Nat) (h : i < (rowA G.ps v).length) : lineUpto G v (i + 1) = lineUpto G v i ++ 32 :: (decB (toA (rowA G.ps v) i).toNat ++ 47 :: decB (wtA (rowA G.ps v) i).toNat) := by
  unfold lineUpto
  have h2 : i < (portsOf (rowA G.ps v)).length := by simpa [portsOf] using h
  rw [List.take_succ_eq_append_getElem h2, List.flatMap_append]
  simp [portsOf, fmtPort, toA, wtA, List.getD, List.getElem?_eq_getElem h]
theorem port_len (p : Port) (h : PortSmall p) : (fmtPort p).length ≤ 13 := by
  have h1 := dec_le h.1
  have h2 := dec_le h.2
  unfold fmtPort
  simp
  omega
theorem flat_len : ∀ {ps : List Port}, (∀ p ∈ ps, PortSmall p) → (ps.flatMap fun p => 32 :: fmtPort p).length ≤ 14 * ps.length
  | [], _ => by simp
  | p :: ps, h => by
    have h1 := port_len p (h p (by simp))
    have h2 := flat_len (ps := ps) (fun q hq => h q (by simp [hq]))
    rw [List.flatMap_cons, List.length_append]
    simp only [List.length_cons]
    omega
theorem ports_small {G : Gr} (hV : ValidG G) {v : Nat} (hv : v < G.ps.length) : ∀ p ∈ portsOf (rowA G.ps v), PortSmall p := by
  intro p hp
  obtain ⟨x, hx, rfl⟩ := List.mem_map.1 hp
  obtain ⟨i, hi, rfl⟩ := List.getElem_of_mem hx
  have h := hV.links v hv i hi
  have := hV.le
  unfold LinkOk at h
  have e1 : toA (rowA G.ps v) i = ((rowA G.ps v)[i]).1 := by simp [toA, List.getD, List.getElem?_eq_getElem hi]
  have e2 : wtA (rowA G.ps v) i = ((rowA G.ps v)[i]).2 := by simp [wtA, List.getD, List.getElem?_eq_getElem hi]
  rw [e1, e2] at h
  unfold PortSmall
  show _ ∧ _
  omega
theorem line_len {G : Gr} (hV : ValidG G) {v i : Nat} (hv : v < G.ps.length) : (lineUpto G v i).length ≤ 400 := by
  have h1 := hV.id v hv
  unfold IdOk at h1
  have h2 := dec_le (n := (idA G.ids v).toNat) (by omega)
  have h3 := flat_len (ps := (portsOf (rowA G.ps v)).take i) (fun p hp => ports_small hV hv p (List.mem_of_mem_take hp))
  have h4 := (hV.links v hv).len hv
  have h5 := hV.le
  have h6 : ((portsOf (rowA G.ps v)).take i).length ≤ (rowA G.ps v).length := by
    rw [List.length_take]
    simp [portsOf]
    omega
  unfold lineUpto nodeW
  simp only [List.length_append, List.length_cons, List.length_nil]
  omega
theorem fmt_len {G : Gr} (hV : ValidG G) : ∀ v, v ≤ G.ps.length → (fmtUpto G v).length ≤ 401 * v
  | 0, _ => by simp [fmtUpto, fmtText]
  | v + 1, hv => by
    have h1 := fmt_len hV v (by omega)
    have h2 := line_len hV (v := v) (i := (rowA G.ps v).length) (by omega)
    rw [line_whole] at h2
    rw [fmt_succ]
    simp only [List.length_append, List.length_cons, List.length_nil]
    omega
theorem small_nodes {G : Gr} (hV : ValidG G) : ∀ x ∈ nodesOf G, NodeSmall x := by
  intro x hx
  obtain ⟨v, hv, rfl⟩ := List.mem_map.1 hx
  have hv : v < G.ps.length := by simpa using hv
  have h1 := hV.id v hv
  unfold IdOk at h1
  exact ⟨by show (idA G.ids v).toNat < _; omega, ports_small hV hv⟩

noncomputable def formatS (G : Gr) : Bytes := if validB G then fmtText (nodesOf G) else []
noncomputable def formatE (G : Gr) : Int := if validB G then 0 else 1
theorem ret_fmt {a b : Bytes} {c d : Int} (h : a = b) (h2 : c = d) : Ending.returned (.tuple #[.string ⟨a.toArray⟩, .int .i64 c]) = .returned (.tuple #[.string ⟨b.toArray⟩, .int .i64 d]) := by rw [h, h2]

end Go.Proofs.Ytkffpipcjdhbaaa
