/- What Format of the specification of layer 2 answers. -/
import Derived.Test.YtahhndhaciijpaaDoorRefT5
import Derived.Test.YtahhndhaciijpaaDoorRef01V
import Derived.Deep.RegionHeld3
namespace Go.Proofs.YtahhndhaciijpaaDoor
open Go.RowKit

/-- the nodes that a graph's text has -/
def portsOf (xs : List (Int × Int)) : List Port := xs.map fun x => (x.1.toNat, x.2.toNat)
def nodesOf (G : Gr) : List Node := (List.range G.ps.length).map fun v => ((idA G.ids v).toNat, portsOf (rowA G.ps v))
/-- the text of the first v nodes -/
def fmtUpto (G : Gr) (v : Nat) : Bytes := fmtText ((List.range v).map fun v => ((idA G.ids v).toNat, portsOf (rowA G.ps v)))
/-- the line of node v as far as its first i ports -/
def lineUpto (G : Gr) (v i : Nat) : Bytes := nodeW ++ 32 :: (decB (idA G.ids v).toNat ++ ((portsOf (rowA G.ps v)).take i).flatMap fun p => 32 :: fmtPort p)
theorem join_flat : ∀ (w : Bytes) (ws : List Bytes), joinB 32 (w :: ws) = w ++ ws.flatMap fun x => 32 :: x
  | w, [] => by simp [joinB]
  | w, v :: ws => by
    rw [joinB, join_flat v ws, List.flatMap_cons]
    simp
theorem line_whole (G : Gr) (v : Nat) : lineUpto G v (rowA G.ps v).length = fmtLine ((idA G.ids v).toNat, portsOf (rowA G.ps v)) := by
  unfold lineUpto fmtLine
  rw [join_flat, List.flatMap_cons, List.flatMap_map, List.take_of_length_le (by simp [portsOf])]
  simp
theorem fmt_succ (G : Gr) (v : Nat) : fmtUpto G (v + 1) = fmtUpto G v ++ (fmtLine ((idA G.ids v).toNat, portsOf (rowA G.ps v)) ++ [10]) := by
  unfold fmtUpto fmtText
  rw [List.range_succ, List.map_append, List.flatMap_append]
  simp
theorem line_succ (G : Gr) (v i : Nat) (h : i < (rowA G.ps v).length) : lineUpto G v (i + 1) = lineUpto G v i ++ 32 :: (decB (toA (rowA G.ps v) i).toNat ++ 47 :: decB (wtA (rowA G.ps v) i).toNat) := by
  unfold lineUpto
  have h2 : i < (portsOf (rowA G.ps v)).length := by simpa [portsOf] using h
  rw [List.take_succ_eq_append_getElem h2, List.flatMap_append]
  simp [portsOf, fmtPort, toA, wtA, List.getD, List.getElem?_eq_getElem h]
theorem port_len (p : Port) (h : PortSmall p) : (fmtPort p).length ≤ 13 := by
  have h1 := dec_le h.1
  have h2 := dec_le h.2
  unfold fmtPort
  simp
  omega
theorem flat_len : ∀ {ps : List Port}, (∀ p ∈ ps, PortSmall p) → (ps.flatMap fun p => 32 :: fmtPort p).length ≤ 14 * ps.length
  | [], _ => by simp
  | p :: ps, h => by
    have h1 := port_len p (h p (by simp))
    have h2 := flat_len (ps := ps) (fun q hq => h q (by simp [hq]))
    rw [List.flatMap_cons, List.length_append]
    simp only [List.length_cons]
    omega
theorem ports_small {G : Gr} (hV : ValidG G) {v : Nat} (hv : v < G.ps.length) : ∀ p ∈ portsOf (rowA G.ps v), PortSmall p := by
  intro p hp
  obtain ⟨x, hx, rfl⟩ := List.mem_map.1 hp
  obtain ⟨i, hi, rfl⟩ := List.getElem_of_mem hx
  have h := hV.links v hv i hi
  have := hV.le
  unfold LinkOk at h
  have e1 : toA (rowA G.ps v) i = ((rowA G.ps v)[i]).1 := by simp [toA, List.getD, List.getElem?_eq_getElem hi]
  have e2 : wtA (rowA G.ps v) i = ((rowA G.ps v)[i]).2 := by simp [wtA, List.getD, List.getElem?_eq_getElem hi]
  rw [e1, e2] at h
  unfold PortSmall
  show _ ∧ _
  omega
theorem line_len {G : Gr} (hV : ValidG G) {v i : Nat} (hv : v < G.ps.length) : (lineUpto G v i).length ≤ 400 := by
  have h1 := hV.id v hv
  unfold IdOk at h1
  have h2 := dec_le (n := (idA G.ids v).toNat) (by omega)
  have h3 := flat_len (ps := (portsOf (rowA G.ps v)).take i) (fun p hp => ports_small hV hv p (List.mem_of_mem_take hp))
  have h4 := (hV.links v hv).len hv
  have h5 := hV.le
  have h6 : ((portsOf (rowA G.ps v)).take i).length ≤ (rowA G.ps v).length := by
    rw [List.length_take]
    simp [portsOf]
    omega
  unfold lineUpto nodeW
  simp only [List.length_append, List.length_cons, List.length_nil]
  omega
theorem fmt_len {G : Gr} (hV : ValidG G) : ∀ v, v ≤ G.ps.length → (fmtUpto G v).length ≤ 401 * v
  | 0, _ => by simp [fmtUpto, fmtText]
  | v + 1, hv => by
    have h1 := fmt_len hV v (by omega)
    have h2 := line_len hV (v := v) (i := (rowA G.ps v).length) (by omega)
    rw [line_whole] at h2
    rw [fmt_succ]
    simp only [List.length_append, List.length_cons, List.length_nil]
    omega
theorem small_nodes {G : Gr} (hV : ValidG G) : ∀ x ∈ nodesOf G, NodeSmall x := by
  intro x hx
  obtain ⟨v, hv, rfl⟩ := List.mem_map.1 hx
  have hv : v < G.ps.length := by simpa using hv
  have h1 := hV.id v hv
  unfold IdOk at h1
  exact ⟨by show (idA G.ids v).toNat < _; omega, ports_small hV hv⟩

noncomputable def formatS (G : Gr) : Bytes := if validB G then fmtText (nodesOf G) else []
noncomputable def formatE (G : Gr) : Int := if validB G then 0 else 1
theorem ret_fmt {a b : Bytes} {c d : Int} (h : a = b) (h2 : c = d) : Ending.returned (.tuple #[.string ⟨a.toArray⟩, .int .i64 c]) = .returned (.tuple #[.string ⟨b.toArray⟩, .int .i64 d]) := by rw [h, h2]

set_option maxRecDepth 100000 in
set_option maxHeartbeats 2000000 in
theorem refFormat_any (ia pa : Option Addr) (il ic pl pc : Nat) (G : Gr) (w : World) (hG : GraphAt w ia il pa pl G) :
    Calls Tryd.prog 15 #[.agg #[.slice ia il ic, .slice pa pl pc]] w fun e w' => e = .returned (.tuple #[.string ⟨(formatS G).toArray⟩, .int .i64 (formatE G)]) ∧ Below w.heap.size w w' := by
  have Hpl := Lib.hid hG.pl
  have Hil := Lib.hid hG.il
  cases hv : validB G with
  | false =>
    have Hf : Hid (formatS G = []) := Lib.hid (by simp [formatS, hv])
    have Hf2 : Hid (formatE G = 1) := Lib.hid (by simp [formatE, hv])
    go_enter Tryd.func15, Tryd.ntmps15
    go_wp2_with (go_at_call 16; refine (refValid_any _ _ _ _ _ _ G _ (hG.alloc _)).mono ?_; rintro e w1 ⟨rfl, hb1⟩)
    go_ret2
    exact ⟨ret_fmt Hf.out.symm Hf2.out.symm, ((Below.refl _ _).alloc (Nat.le_refl _) _).trans (hb1.mono (by simp))⟩
  | true =>
    have HV := Lib.hid (validB_iff.1 hv)
    have hp1 : 1 ≤ pl := by have := HV.out.pos; have := Hpl.out; omega
    have hp24 : pl ≤ 24 := by have := HV.out.le; have := Hpl.out; omega
    have hil : pl = il := by have := HV.out.ids; have := Hpl.out; have := Hil.out; omega
    subst hil
    have Hf : Hid (formatS G = fmtUpto G pl) := Lib.hid (by simp [formatS, hv, fmtUpto, nodesOf, Hpl.out])
    have Hf2 : Hid (formatE G = 0) := Lib.hid (by simp [formatE, hv])
    obtain ⟨pb, po, rfl, hpb, hrow⟩ := hG.ports.row (by have := Hpl.out; omega)
    obtain ⟨ib, io, rfl, hib, hidc⟩ := hG.ids.row (by have := Hil.out; omega)
    have Hrow := Lib.hid hrow
    have Hidc := Lib.hid hidc
    clear hrow hidc
    go_enter Tryd.func15, Tryd.ntmps15
    go_wp2_with (go_at_call 16; refine (refValid_any _ _ _ _ _ _ G _ (hG.alloc _)).mono ?_; rintro e w1 ⟨rfl, hb1⟩; have hbel0 : Below (w.heap.size + 1) (w.alloc (.cells #[.slice (some ⟨ib, io, none⟩) pl ic, .slice (some ⟨pb, po, none⟩) pl pc] 26)) w1 := hb1.mono (by simp))
    clear hb1
    go_loopw [4, 5] (fun q t wr => ∃ v : Nat, v ≤ pl ∧ t = .int .i64 v ∧ q = .string ⟨(fmtUpto G v).toArray⟩ ∧ Below (w.heap.size + 1) (w.alloc (.cells #[.slice (some ⟨ib, io, none⟩) pl ic, .slice (some ⟨pb, po, none⟩) pl pc] 26)) wr) (fun _ t _ => pl - (intOf t).toNat)
    case atStart => exact ⟨0, Nat.zero_le _, rfl, rfl, hbel0⟩
    case round =>
      clear hbel0
      obtain ⟨v, hvl, rfl, rfl, hbel⟩ := hrel
      have hb0 : wr.cell? ⟨w.heap.size, 0, none⟩ = some (.slice (some ⟨ib, io, none⟩) pl ic) := boxed hbel 0
      have hb1 : wr.cell? ⟨w.heap.size, 1, none⟩ = some (.slice (some ⟨pb, po, none⟩) pl pc) := boxed hbel 1
      have hfl := fmt_len HV.out v (by have := Hpl.out; omega)
      by_cases hlt : v < pl
      · have hvG : v < G.ps.length := by have := Hpl.out; omega
        obtain ⟨la, lc, hcl, hL⟩ := Hrow.out v hvG
        have HCL := Lib.hid hcl
        have HL := Lib.hid hL
        have hlm := (HV.out.links v hvG).len hvG
        have hl24 : (rowA G.ps v).length < 24 := by have := HV.out.le; omega
        clear hcl hL hlm
        have hidv := Hidc.out v (by have := Hil.out; omega)
        have hci := ((belBox hbel).cell (p := ⟨ib, io + v, none⟩) hib).trans hidv
        have hok := HV.out.id v hvG
        obtain ⟨d, hd⟩ : ∃ d : Nat, idA G.ids v = d := ⟨(idA G.ids v).toNat, by have := hok.1; omega⟩
        have hdl : d < 256 := by have := hok.1; omega
        rw [hd] at hci
        have Hd := Lib.hid hd
        have hvi : (v : Int) < pl := by omega
        clear hidv hok hd
        have hdl2 := dec_le (n := d) (by omega)
        have hadd1 := fun W => run_string_add_lists (P := Tryd.prog) W [110, 111, 100, 101, 32] (decB d) (by simp) (by omega)
        have hadd2 := fun W => run_string_add_lists (P := Tryd.prog) W (fmtUpto G v) (110 :: 111 :: 100 :: 101 :: 32 :: decB d) (by omega) (by simp; omega)
        go_wp2_with (go_at_call 27; refine (decimal_any d _ (by omega)).mono ?_; rintro e w2 ⟨rfl, hb2⟩; have hbel2 := hbel.trans (hb2.mono (Nat.le_trans (by simp) hbel.size)))
        have HA0 : Hid (fmtUpto G v ++ 110 :: 111 :: 100 :: 101 :: 32 :: decB d = fmtUpto G v ++ lineUpto G v 0) := Lib.hid (by
          unfold lineUpto nodeW
          rw [Hd.out]
          simp)
        rw [HA0.out]
        clear hadd1 hadd2 HA0 hb0 hb1 hci
        obtain ⟨wo, rfl⟩ : ∃ wo : World, wo = w2 := ⟨_, rfl⟩
        go_loopw [4, 6] (fun q t wr => ∃ i : Nat, i ≤ (rowA G.ps v).length ∧ t = .int .i64 i ∧ q = .string ⟨(fmtUpto G v ++ lineUpto G v i).toArray⟩ ∧ Below (w.heap.size + 1) (w.alloc (.cells #[.slice (some ⟨ib, io, none⟩) pl ic, .slice (some ⟨pb, po, none⟩) pl pc] 26)) wr) (fun _ t _ => (rowA G.ps v).length - (intOf t).toNat)
        case atStart => exact ⟨0, Nat.zero_le _, rfl, rfl, hbel2⟩
        case round =>
          clear hbel2 hbel
          obtain ⟨i, hin, rfl, rfl, hbel⟩ := hrel
          have hb0 : wr.cell? ⟨w.heap.size, 0, none⟩ = some (.slice (some ⟨ib, io, none⟩) pl ic) := boxed hbel 0
          have hb1 : wr.cell? ⟨w.heap.size, 1, none⟩ = some (.slice (some ⟨pb, po, none⟩) pl pc) := boxed hbel 1
          have hcl := ((belBox hbel).cell (p := ⟨pb, po + v, none⟩) hpb).trans HCL.out
          have hll := line_len HV.out (v := v) (i := i) hvG
          by_cases hli : i < (rowA G.ps v).length
          · have Hsucc := Lib.hid (line_succ G v i hli)
            obtain ⟨lb, lo, rfl, hlb, hcs⟩ := HL.out.row (by omega)
            have hck1 := ((belBox hbel).cell (p := ⟨lb, lo + i * 2, none⟩) hlb).trans (hcs i hli).1
            have hck2 := ((belBox hbel).cell (p := ⟨lb, lo + i * 2 + 1, none⟩) hlb).trans (hcs i hli).2
            have HK1 := Lib.hid (hcs i hli).1
            have HK2 := Lib.hid (hcs i hli).2
            clear hcs
            have hok := HV.out.links v hvG i hli
            obtain ⟨t, ht⟩ : ∃ t : Nat, toA (rowA G.ps v) i = t := ⟨(toA (rowA G.ps v) i).toNat, by have := hok.1; omega⟩
            obtain ⟨x, hx⟩ : ∃ x : Nat, wtA (rowA G.ps v) i = x := ⟨(wtA (rowA G.ps v) i).toNat, by have := hok.2.2.1; omega⟩
            have htl : t < 24 := by have := hok.1; have := HV.out.le; omega
            have hxl : x < 16 := by have := hok.2.2.1; omega
            rw [ht] at hck1 HK1
            rw [hx] at hck2 HK2
            rw [ht, hx, Int.toNat_natCast, Int.toNat_natCast] at Hsucc
            clear hok ht hx
            have hli' : (i : Int) < (rowA G.ps v).length := by omega
            have hdt := dec_le (n := t) (by omega)
            have hdx := dec_le (n := x) (by omega)
            obtain ⟨A, hA⟩ : ∃ A : Bytes, fmtUpto G v ++ lineUpto G v i = A := ⟨_, rfl⟩
            have hAl : A.length ≤ 20000 := by rw [← hA, List.length_append]; omega
            have HA : Hid (fmtUpto G v ++ lineUpto G v (i + 1) = A ++ 32 :: (decB t ++ 47 :: decB x)) := Lib.hid (by rw [Hsucc.out, ← List.append_assoc, hA])
            rw [hA]
            have hadd1 := fun W => run_string_add_lists (P := Tryd.prog) W [32] (decB t) (by simp) (by omega)
            have hadd2 := fun W => run_string_add_lists (P := Tryd.prog) W (32 :: decB t) [47] (by simp; omega) (by simp)
            have hadd3 := fun W => run_string_add_lists (P := Tryd.prog) W (32 :: (decB t ++ [47])) (decB x) (by simp; omega) (by omega)
            have hadd4 := fun W => run_string_add_lists (P := Tryd.prog) W A (32 :: (decB t ++ 47 :: decB x)) (by omega) (by simp; omega)
            clear hA Hsucc hll hfl
            go_wp2_with fail
            go_region_held3 (fun w' => w'.cell? ⟨w.heap.size, 0, none⟩ = some (.slice (some ⟨ib, io, none⟩) pl ic) ∧ w'.cell? ⟨w.heap.size, 1, none⟩ = some (.slice (some ⟨pb, po, none⟩) pl pc) ∧ w'.cell? ⟨pb, po + v, none⟩ = some (.slice (some ⟨lb, lo, none⟩) (rowA G.ps v).length lc) ∧ w'.cell? ⟨lb, lo + i * 2, none⟩ = some (.int .i64 (t : Int)) ∧ w'.cell? ⟨lb, lo + i * 2 + 1, none⟩ = some (.int .i64 (x : Int)) ∧ Below (w.heap.size + 1) (w.alloc (.cells #[.slice (some ⟨ib, io, none⟩) pl ic, .slice (some ⟨pb, po, none⟩) pl pc] 26)) w') (first | exact ⟨hx40, hx41, hx42, hx43, hx44, hD4⟩ | exact ⟨hx30, hx31, hx32, hx33, hx34, hD3⟩ | exact ⟨hb0, hb1, hcl, hck1, hck2, hbel.drew⟩ | exact ⟨hb0, hb1, hcl, hck1, hck2, hbel⟩) (first | (go_at_call 27; have hHd := ‹_ ∧ _ ∧ _ ∧ _ ∧ _ ∧ Below (w.heap.size + 1) _ _›; (with_reducible refine (decimal_any t _ ?_).mono ?_); omega; rintro e w3 ⟨rfl, hb3⟩; have hD3 : Below (w.heap.size + 1) (w.alloc (.cells #[.slice (some ⟨ib, io, none⟩) pl ic, .slice (some ⟨pb, po, none⟩) pl pc] 26)) w3 := hHd.2.2.2.2.2.trans (hb3.mono (Nat.le_trans (by simp) hHd.2.2.2.2.2.size)); have hx30 : w3.cell? ⟨w.heap.size, 0, none⟩ = some (.slice (some ⟨ib, io, none⟩) pl ic) := boxed hD3 0; have hx31 : w3.cell? ⟨w.heap.size, 1, none⟩ = some (.slice (some ⟨pb, po, none⟩) pl pc) := boxed hD3 1; have hx32 := ((belBox hD3).cell (p := ⟨pb, po + v, none⟩) hpb).trans HCL.out; have hx33 := ((belBox hD3).cell (p := ⟨lb, lo + i * 2, none⟩) hlb).trans HK1.out; have hx34 := ((belBox hD3).cell (p := ⟨lb, lo + i * 2 + 1, none⟩) hlb).trans HK2.out) | (go_at_call 27; have hHd := ‹_ ∧ _ ∧ _ ∧ _ ∧ _ ∧ Below (w.heap.size + 1) _ _›; (with_reducible refine (decimal_any x _ ?_).mono ?_); omega; rintro e w4 ⟨rfl, hb4⟩; have hD4 : Below (w.heap.size + 1) (w.alloc (.cells #[.slice (some ⟨ib, io, none⟩) pl ic, .slice (some ⟨pb, po, none⟩) pl pc] 26)) w4 := hHd.2.2.2.2.2.trans (hb4.mono (Nat.le_trans (by simp) hHd.2.2.2.2.2.size)); have hx40 : w4.cell? ⟨w.heap.size, 0, none⟩ = some (.slice (some ⟨ib, io, none⟩) pl ic) := boxed hD4 0; have hx41 : w4.cell? ⟨w.heap.size, 1, none⟩ = some (.slice (some ⟨pb, po, none⟩) pl pc) := boxed hD4 1; have hx42 := ((belBox hD4).cell (p := ⟨pb, po + v, none⟩) hpb).trans HCL.out; have hx43 := ((belBox hD4).cell (p := ⟨lb, lo + i * 2, none⟩) hlb).trans HK1.out; have hx44 := ((belBox hD4).cell (p := ⟨lb, lo + i * 2 + 1, none⟩) hlb).trans HK2.out))
            go_wp2_with fail
            go_roundw
            case rel => exact ⟨i + 1, by omega, by go_num, by rw [HA.out], hD4⟩
            case measure => simp [intOf]; omega
          · have HE : Hid ((fmtUpto G v ++ lineUpto G v i) ++ [10] = fmtUpto G (v + 1)) := Lib.hid (by
              rw [show i = (rowA G.ps v).length by omega, line_whole, fmt_succ]
              simp)
            obtain ⟨A, hA⟩ : ∃ A : Bytes, fmtUpto G v ++ lineUpto G v i = A := ⟨_, rfl⟩
            have hAl : A.length ≤ 20000 := by rw [← hA, List.length_append]; omega
            rw [hA] at HE ⊢
            have hadd := fun W => run_string_add_lists (P := Tryd.prog) W A [10] (by omega) (by simp)
            clear hA hll hfl
            go_wp2
            go_roundw
            case rel => exact ⟨v + 1, by omega, by go_num, by rw [← HE.out], hbel⟩
            case measure => simp [intOf]; omega
      · go_wp2
        go_ret2
        exact ⟨ret_fmt (by rw [Hf.out, show pl = v by omega]) Hf2.out.symm, belBox hbel⟩
end Go.Proofs.YtahhndhaciijpaaDoor
