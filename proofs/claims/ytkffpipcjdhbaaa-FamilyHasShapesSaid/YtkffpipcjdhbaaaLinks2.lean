/- What graph.linksOf answers: the map of all links, each once. -/
import Derived.Test.YtkffpipcjdhbaaaLinks
namespace Go.Proofs.Ytkffpipcjdhbaaa
open Go.RowKit Go.Maps

/-- the link between v and d -/
def lnk (v d : Nat) : Nat × Nat := (min v d, max v d)
/-- L with the first i links of row v -/
def putRow (xs : List (Int × Int)) (v : Nat) (L : List (Nat × Nat)) : Nat → List (Nat × Nat)
  | 0 => L
  | i + 1 => ins (lnk v (toA xs i).toNat) (putRow xs v L i)
/-- the links of the first v rows -/
def allLinks (G : Gr) : Nat → List (Nat × Nat)
  | 0 => []
  | v + 1 => putRow (rowA G.ps v) v (allLinks G v) (rowA G.ps v).length

theorem lnk_near {v d : Nat} (hv : v < 24) (hd : d < 24) : Near (lnk v d) := by unfold lnk Near; omega
theorem mem_putRow {xs : List (Int × Int)} {v : Nat} {L : List (Nat × Nat)} {q : Nat × Nat} : ∀ {i : Nat}, q ∈ putRow xs v L i ↔ q ∈ L ∨ ∃ j, j < i ∧ q = lnk v (toA xs j).toNat
  | 0 => by simp [putRow]
  | i + 1 => by
    rw [putRow, mem_ins, mem_putRow]
    constructor
    · rintro ((h | ⟨j, hj, e⟩) | e)
      · exact .inl h
      · exact .inr ⟨j, by omega, e⟩
      · exact .inr ⟨i, by omega, e⟩
    · rintro (h | ⟨j, hj, e⟩)
      · exact .inl (.inl h)
      · by_cases h1 : j < i
        · exact .inl (.inr ⟨j, h1, e⟩)
        · rw [show j = i by omega] at e
          exact .inr e
theorem mem_allLinks {G : Gr} {q : Nat × Nat} : ∀ {v : Nat}, q ∈ allLinks G v ↔ ∃ u, u < v ∧ ∃ j, j < (rowA G.ps u).length ∧ q = lnk u (toA (rowA G.ps u) j).toNat
  | 0 => by simp [allLinks]
  | v + 1 => by
    rw [allLinks, mem_putRow, mem_allLinks]
    constructor
    · rintro (⟨u, hu, h⟩ | ⟨j, hj, e⟩)
      · exact ⟨u, by omega, h⟩
      · exact ⟨v, by omega, j, hj, e⟩
    · rintro ⟨u, hu, h⟩
      by_cases h1 : u < v
      · exact .inl ⟨u, h1, h⟩
      · rw [show u = v by omega] at h
        exact .inr h
theorem ins_len (p : Nat × Nat) (L : List (Nat × Nat)) : (ins p L).length ≤ L.length + 1 := by
  unfold ins
  split <;> simp
theorem putRow_len (xs : List (Int × Int)) (v : Nat) (L : List (Nat × Nat)) : ∀ i, (putRow xs v L i).length ≤ L.length + i
  | 0 => by simp [putRow]
  | i + 1 => by
    rw [putRow]
    have := ins_len (lnk v (toA xs i).toNat) (putRow xs v L i)
    have := putRow_len xs v L i
    omega
theorem allLinks_len {G : Gr} (hok : ∀ v : Nat, v < G.ps.length → LinksOk (rowA G.ps v) v G.ps.length) (h24 : G.ps.length ≤ 24) : ∀ v, v ≤ G.ps.length → (allLinks G v).length ≤ v * 24
  | 0, _ => by simp [allLinks]
  | v + 1, hv => by
    rw [allLinks]
    have := putRow_len (rowA G.ps v) v (allLinks G v) (rowA G.ps v).length
    have := allLinks_len hok h24 v (by omega)
    have := (hok v (by omega)).len (by omega)
    omega

theorem mapUnder : Try.prog.underlying 75 = some (.map 84 4) := Try.underlying75

set_option maxHeartbeats 1000000 in
theorem linksOf_any (ia pa : Option Addr) (il ic pl pc : Nat) (G : Gr) (w : World) (hG : GraphAt w ia il pa pl G) (hV : ValidG G) :
    Calls Try.prog 75 #[.agg #[.slice ia il ic, .slice pa pl pc]] w fun e w' => (∃ b, e = .returned (.map (some b)) ∧ w.heap.size ≤ b ∧ LinkMap w' b (allLinks G pl)) ∧ Below w.heap.size w w' := by
  have Hpl := Lib.hid hG.pl
  have hpl1 : 1 ≤ pl := by have := hV.pos; have := hG.pl; omega
  have hpl24 : pl ≤ 24 := by have := hV.le; have := hG.pl; omega
  have HV := Lib.hid hV
  clear hV
  obtain ⟨pb, po, rfl, hpb, hrow⟩ := hG.ports.row (by have := Hpl.out; omega)
  have Hrow := Lib.hid hrow
  clear hrow
  have hmm := @run_makeMap Try.prog
  go_enter Try.func75, Try.ntmps75
  go_wp2
  clear hmm
  go_loopw [12] (fun t wr => ∃ v : Nat, v ≤ pl ∧ t = .int .i64 v ∧ Below (w.heap.size + 1) (w.alloc (.cells #[.slice ia il ic, .slice (some ⟨pb, po, none⟩) pl pc] 26)) wr ∧ w.heap.size + 1 < wr.heap.size ∧
    LinkMap wr (w.heap.size + 1) (allLinks G v)) (fun t _ => pl - (intOf t).toNat)
  case atStart =>
    refine ⟨0, Nat.zero_le _, rfl, (Below.refl _ _).alloc (by simp) _, by simp, ?_⟩
    have := LinkMap.made (w.alloc (.cells #[.slice ia il ic, .slice (some ⟨pb, po, none⟩) pl pc] 26))
    simpa [allLinks] using this
  case round =>
    obtain ⟨v, hv, rfl, hbel, hsz, hM⟩ := hrel
    have HM := Lib.hid hM
    clear hM
    by_cases hlt : v < pl
    · obtain ⟨la, lc, hcl, hL⟩ := Hrow.out v (by have := Hpl.out; omega)
      have hcl := ((belBox hbel).cell (p := ⟨pb, po + v, none⟩) hpb).trans hcl
      have hlm := hL.size
      unfold maxLen at hlm
      have HL := Lib.hid hL
      clear hL
      go_wp2
      obtain ⟨wo, rfl⟩ : ∃ wo : World, wo = wr := ⟨_, rfl⟩
      go_loopw [19] (fun t wr => ∃ i : Nat, i ≤ (rowA G.ps v).length ∧ t = .int .i64 i ∧ Below (w.heap.size + 1) (w.alloc (.cells #[.slice ia il ic, .slice (some ⟨pb, po, none⟩) pl pc] 26)) wr ∧ w.heap.size + 1 < wr.heap.size ∧
        LinkMap wr (w.heap.size + 1) (putRow (rowA G.ps v) v (allLinks G v) i)) (fun t _ => (rowA G.ps v).length - (intOf t).toNat)
      case atStart => exact ⟨0, Nat.zero_le _, rfl, hbel, hsz, HM.out⟩
      case round =>
        obtain ⟨i, hi, rfl, hbel2, hsz2, hM2⟩ := hrel
        have HM2 := Lib.hid hM2
        clear hM2
        by_cases hli : i < (rowA G.ps v).length
        · obtain ⟨lb, lo, rfl, hlb, hcs⟩ := (HL.out.below (belBox hbel2)).row (by omega)
          have hck1 := (hcs i hli).1
          have hck2 := (hcs i hli).2
          clear hcs
          have hlok := HV.out.links v (by have := Hpl.out; omega) i hli
          obtain ⟨d, hd⟩ : ∃ d : Nat, toA (rowA G.ps v) i = d := ⟨(toA (rowA G.ps v) i).toNat, by have := hlok.1; omega⟩
          have hdl : d < pl := by have := hlok.1; have := Hpl.out; omega
          have hne : v ≠ d := by have := hlok.2.1; omega
          rw [hd] at hck1
          have Hd := Lib.hid hd
          clear hd hlok
          have Hlen := Lib.hid (show (putRow (rowA G.ps v) v (allLinks G v) i).length < maxLen by
            have h1 := putRow_len (rowA G.ps v) v (allLinks G v) i
            have h2 := allLinks_len HV.out.links HV.out.le v (by have := Hpl.out; omega)
            have h3 := (HV.out.links v (by have := Hpl.out; omega)).len (by have := Hpl.out; omega)
            have := HV.out.le
            unfold maxLen; omega)
          have hN : Near (lnk v d) := lnk_near (by omega) (by omega)
          have hbel3 := hbel2.alloc (w := wr) (by omega) (.cells #[.int .i64 (d : Int), .int .i64 (wtA (rowA G.ps v) i)] 50)
          have hgo : ∀ w1 : World, LinkMap w1 (w.heap.size + 1) (ins (lnk v d) (putRow (rowA G.ps v) v (allLinks G v) i)) → LinkMap w1 (w.heap.size + 1) (putRow (rowA G.ps v) v (allLinks G v) (i + 1)) := by
            intro w1 h
            rw [putRow, Hd.out]
            exact h
          have Hgo := Lib.hid hgo
          clear hgo
          obtain ⟨hnd, hnear, D, hown0, hsize, hhas⟩ := HM2.out.kept (World.grownBy_alloc wr (.cells #[.int .i64 (d : Int), .int .i64 (wtA (rowA G.ps v) i)] 50) none) (by simp)
          have Hput := Lib.hid (fun (w1 : World) (h : w1.ownsMap Try.prog 84 (plainElem Try.prog 4) (w.heap.size + 1) ((putRow (rowA G.ps v) v (allLinks G v) i).length + 1) (D.put (linkLit (lnk v d)) (.lit (.bool true)))) => LinkMap.put1 ⟨hnd, hnear, D, hown0, hsize, hhas⟩ hN hown0 hhas hsize h)
          by_cases hvd : v < d
          · have hkey : keyOf Try.prog 84 (.agg #[.int .i64 (v : Int), .int .i64 (d : Int)]) = some (linkLit (lnk v d)) := by
              have := keyOf_link hN
              simpa [linkV, lnk, Nat.min_eq_left (Nat.le_of_lt hvd), Nat.max_eq_right (Nat.le_of_lt hvd)] using this
            go_wp2_with (at_mapUpdate; refine wpList_mapUpdate_own _ rfl _ _ _ 75 rfl 84 4 linkLaw mapUnder (plainElem Try.prog 4) (w.heap.size + 1) _ D rfl hown0 Hlen.out _ _ _ rfl rfl hkey (.lit (.bool true)) [] (plainElem_bool Try.underlying4 true) ?_; intro w1 hown1 hgrow1)
            go_roundw
            case rel => exact ⟨i + 1, by omega, by go_num, hbel3.grown hgrow1 (by simp; omega) (by rintro k ⟨⟩; omega), by have := hgrow1.size; simp at this; omega, Hgo.out _ (Hput.out _ hown1)⟩
            case measure => simp [intOf]; omega
          · have hkey : keyOf Try.prog 84 (.agg #[.int .i64 (d : Int), .int .i64 (v : Int)]) = some (linkLit (lnk v d)) := by
              have := keyOf_link hN
              simpa [linkV, lnk, Nat.min_eq_right (Nat.le_of_not_lt hvd), Nat.max_eq_left (Nat.le_of_not_lt hvd)] using this
            go_wp2_with (at_mapUpdate; refine wpList_mapUpdate_own _ rfl _ _ _ 75 rfl 84 4 linkLaw mapUnder (plainElem Try.prog 4) (w.heap.size + 1) _ D rfl hown0 Hlen.out _ _ _ rfl rfl hkey (.lit (.bool true)) [] (plainElem_bool Try.underlying4 true) ?_; intro w1 hown1 hgrow1)
            go_roundw
            case rel => exact ⟨i + 1, by omega, by go_num, hbel3.grown hgrow1 (by simp; omega) (by rintro k ⟨⟩; omega), by have := hgrow1.size; simp at this; omega, Hgo.out _ (Hput.out _ hown1)⟩
            case measure => simp [intOf]; omega
        · go_wp2
          go_roundw
          case rel => exact ⟨v + 1, by omega, by go_num, hbel2, hsz2, by
            rw [allLinks, show (rowA G.ps v).length = i by omega]
            exact HM2.out⟩
          case measure => simp [intOf]; omega
    · go_wp2
      go_ret
      exact ⟨⟨_, rfl, by omega, by rw [show pl = v by omega]; exact HM.out⟩, belBox hbel⟩
end Go.Proofs.Ytkffpipcjdhbaaa
