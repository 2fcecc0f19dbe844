/- What Independent and Neighbours of package graph answer; sets of nodes. -/
import Derived.Test.YtkffpipcjdhbaaaGraph8
import Derived.Maps.OwnSet
import Derived.Maps.RangeWalk
import Derived.Maps.Ext
import Derived.DeepKeys5
namespace Go.Proofs.Ytkffpipcjdhbaaa
open Go.RowKit Go.Maps

theorem linkLaw : Keyed Try.prog 84 := Keyed.of_law (deep_law_gate laidOut (by decide) (of_decide_eq_true (by kernel_rfl)) (by kernel_rfl) (by kernel_rfl))

theorem keyLits_int (d : Nat) {z : Int} (h : (Lit.int .i64 z).wf = true) : Try.prog.keyLits (d + 1) 3 [.int .i64 z] = some [.int .i64 z] := by
  simp only [Program.keyLits, Try.underlying3]
  rw [if_pos ⟨trivial, h⟩]
theorem cells3 : Try.prog.cellsOf 3 = 1 := by kernel_rfl
theorem cellsLink : Try.prog.cellsOf 84 = 2 := by kernel_rfl
theorem keyLits_link (d : Nat) {a b : Int} (ha : (Lit.int .i64 a).wf = true) (hb : (Lit.int .i64 b).wf = true) : Try.prog.keyLits (d + 1 + 1) 84 [.int .i64 a, .int .i64 b] = some [.int .i64 a, .int .i64 b] := by
  rw [Program.keyLits.eq_def]
  simp only [Try.underlying84]
  rw [if_pos ⟨by rw [cellsLink]; rfl, by kernel_rfl⟩]
  simp [cells3, keyLits_int d ha, keyLits_int d hb]

/-- what a link reads as, as a key -/
def linkLit (p : Nat × Nat) : Lit := .string (keyBytes [.int .i64 p.1, .int .i64 p.2])
def linkV (p : Nat × Nat) : Value := .agg #[.int .i64 p.1, .int .i64 p.2]
/-- a link between nodes of a graph -/
def Near (p : Nat × Nat) : Prop := p.1 < 24 ∧ p.2 < 24

theorem keyOf_some {v : Value} {l : Lit} (h : keyOf Try.prog 84 v = some l) : ∃ a b : Int, v = .agg #[.int .i64 a, .int .i64 b] := by
  unfold keyOf at h
  rw [Try.underlying84] at h
  simp only at h
  split at h
  · rename_i hc
    obtain ⟨_, hf⟩ := Bool.and_eq_true_iff.1 hc
    obtain ⟨ls, hls, _⟩ := Option.map_eq_some_iff.1 h
    cases v with
    | agg cs =>
      simp only [Value.formed, Try.underlying84, cellsLink] at hf
      obtain ⟨l⟩ := cs
      match l, (show l.length = 2 by simpa using hf) with
      | [c0, c1], _ =>
        obtain ⟨d, hd⟩ : ∃ d, Try.prog.types.size = d + 1 := ⟨Try.prog.types.size - 1, by have : 0 < Try.prog.types.size := of_decide_eq_true (by kernel_rfl); omega⟩
        rw [hd, Program.keyLits.eq_def] at hls
        simp only [Try.underlying84] at hls
        split at hls
        · simp [cells3, Value.cells] at hls
          have inv : ∀ (c : Value) (x : List Lit), Try.prog.keyLits (d + 1) 3 [c] = some x → ∃ z, c = .int .i64 z := by
            intro c x hc
            simp only [Program.keyLits, Try.underlying3] at hc
            cases c with
            | int q n =>
              simp at hc
              exact ⟨n, by rw [hc.1.1]⟩
            | _ => simp at hc
          cases hx : Try.prog.keyLits (d + 1) 3 [c0] with
          | none => rw [hx] at hls; simp at hls
          | some x =>
            cases hy : Try.prog.keyLits (d + 1) 3 [c1] with
            | none => rw [hx, hy] at hls; simp at hls
            | some y =>
              obtain ⟨a, rfl⟩ := inv _ _ hx
              obtain ⟨b, rfl⟩ := inv _ _ hy
              exact ⟨a, b, rfl⟩
        · cases hls
    | _ => simp [Value.formed, Try.underlying84] at hf
  · cases h

theorem keyOf_link {p : Nat × Nat} (hp : Near p) : keyOf Try.prog 84 (linkV p) = some (linkLit p) := by
  have ha : (Lit.int .i64 (p.1 : Int)).wf = true := WalkArith.wf_i64 (by have := hp.1; omega)
  have hb : (Lit.int .i64 (p.2 : Int)).wf = true := WalkArith.wf_i64 (by have := hp.2; omega)
  have h1 : Try.prog.keyType 84 = true := by kernel_rfl
  have h2 : (Value.agg #[.int .i64 (p.1 : Int), .int .i64 (p.2 : Int)]).formed Try.prog 84 = true := by kernel_rfl
  obtain ⟨d, hd⟩ : ∃ d, Try.prog.types.size = d + 1 := ⟨Try.prog.types.size - 1, by have : 0 < Try.prog.types.size := of_decide_eq_true (by kernel_rfl); omega⟩
  unfold keyOf linkV
  rw [Try.underlying84]
  simp only [h1, h2, hd, Bool.and_self, if_true]
  rw [show (Value.agg #[.int .i64 (p.1 : Int), .int .i64 (p.2 : Int)]).cells.toList = [.int .i64 (p.1 : Int), .int .i64 (p.2 : Int)] from rfl, keyLits_link d ha hb]
  rfl
theorem linkV_inj {p q : Nat × Nat} (h : linkV p = linkV q) : p = q := by
  obtain ⟨a, b⟩ := p
  obtain ⟨c, d⟩ := q
  simp [linkV] at h
  simp; omega
theorem linkLit_inj {p q : Nat × Nat} (hp : Near p) (hq : Near q) (h : linkLit p = linkLit q) : p = q :=
  linkV_inj (linkLaw.inj (keyOf_link hp) (h ▸ keyOf_link hq))
theorem linkLit_key {p : Nat × Nat} (hp : Near p) : WideAt.IsKeyLit (linkLit p) := linkLaw.key (keyOf_link hp)

/-- block b is a map whose keys are the links of L, each once -/
def LinkMap (w : World) (b : Nat) (L : List (Nat × Nat)) : Prop :=
  L.Nodup ∧ (∀ p ∈ L, Near p) ∧ ∃ D : DataW Unit, w.ownsMap Try.prog 84 (plainElem Try.prog 4) b L.length D ∧ Maps.size D = L.length ∧ ∀ kl, Maps.has D kl = true ↔ ∃ p ∈ L, kl = linkLit p

theorem LinkMap.lt {w : World} {b : Nat} {L : List (Nat × Nat)} (h : LinkMap w b L) : b < w.heap.size := by
  obtain ⟨_, _, D, h1, _⟩ := h
  exact h1.lt
theorem LinkMap.kept {w w' : World} {b : Nat} {L : List (Nat × Nat)} {row : Option Nat} (h : LinkMap w b L) (hg : w.grownBy w' row) (hne : some b ≠ row) : LinkMap w' b L := by
  obtain ⟨h1, h2, D, h3, h4⟩ := h
  exact ⟨h1, h2, D, h3.kept hg hne, h4⟩
theorem LinkMap.made (w : World) : LinkMap (w.alloc (.map #[] 0)) w.heap.size [] :=
  ⟨List.nodup_nil, by simp, .map [], World.ownsMap_made w _ _ _, rfl, fun kl => by simp [Maps.has]⟩

theorem ownsMap_tight {w : World} {k : TypeId} {R : Value → Option (DataW Unit × List MemPlace)} {b n : Nat} {D : DataW Unit} (h : w.ownsMap Try.prog k R b n D) : w.ownsMap Try.prog k R b (Maps.size D) D := by
  obtain ⟨es, clock, hb, F, hs, rfl⟩ := h
  exact ⟨es, clock, hb, F, by simp [Maps.size, length_sorted], rfl⟩

/-- L with p, if it isn't there yet -/
def ins (p : Nat × Nat) (L : List (Nat × Nat)) : List (Nat × Nat) := if p ∈ L then L else L ++ [p]
theorem mem_ins {p q : Nat × Nat} {L : List (Nat × Nat)} : q ∈ ins p L ↔ q ∈ L ∨ q = p := by
  unfold ins
  split
  · constructor
    · exact .inl
    · rintro (h | h)
      · exact h
      · rw [h]; assumption
  · simp

theorem LinkMap.put1 {w w1 : World} {b : Nat} {L : List (Nat × Nat)} {p : Nat × Nat} {D : DataW Unit} (h : LinkMap w b L) (hp : Near p)
    (h3 : w.ownsMap Try.prog 84 (plainElem Try.prog 4) b L.length D) (h5 : ∀ kl, Maps.has D kl = true ↔ ∃ p ∈ L, kl = linkLit p) (h4 : Maps.size D = L.length)
    (hstep : w1.ownsMap Try.prog 84 (plainElem Try.prog 4) b (L.length + 1) (D.put (linkLit p) (.lit (.bool true)))) : LinkMap w1 b (ins p L) := by
  obtain ⟨h1, h2, _⟩ := h
  have h6 := ownsMap_tight hstep
  have hsz := Maps.size_put (h3.tidy linkLaw) (k := linkLit p) (.lit (.bool true))
  have hin : Maps.has D (linkLit p) = true ↔ p ∈ L := by
    rw [h5]
    constructor
    · rintro ⟨q, hq, e⟩
      rw [linkLit_inj hp (h2 q hq) e]; exact hq
    · exact fun h => ⟨p, h, rfl⟩
  have hlen : Maps.size (D.put (linkLit p) (.lit (.bool true))) = (ins p L).length := by
    rw [hsz, h4]
    unfold ins
    by_cases hm : p ∈ L
    · rw [if_pos (hin.2 hm), if_pos hm]
    · rw [if_neg (fun h => hm (hin.1 h)), if_neg hm]; simp
  refine ⟨?_, fun q hq => ?_, _, by rw [← hlen]; exact h6, hlen, fun kl => ?_⟩
  · unfold ins
    split
    · exact h1
    · rename_i hm
      rw [List.nodup_append]
      exact ⟨h1, by simp, fun a ha b hb e => hm (by rw [List.mem_singleton.1 hb] at e; rw [← e]; exact ha)⟩
  · rcases mem_ins.1 hq with h | h
    · exact h2 q h
    · rw [h]; exact hp
  · by_cases e : kl = linkLit p
    · subst e
      rw [Maps.has_put_same h3.isMap (linkLit_key hp)]
      exact ⟨fun _ => ⟨p, mem_ins.2 (.inr rfl), rfl⟩, fun _ => rfl⟩
    · rw [Maps.has_put_other e, h5]
      constructor
      · rintro ⟨q, hq, hk⟩; exact ⟨q, mem_ins.2 (.inl hq), hk⟩
      · rintro ⟨q, hq, hk⟩
        rcases mem_ins.1 hq with h | h
        · exact ⟨q, h, hk⟩
        · rw [h] at hk; exact absurd hk e
end Go.Proofs.Ytkffpipcjdhbaaa
namespace Go.Proofs.Ytkffpipcjdhbaaa
open Go.RowKit Go.Maps

/-- the link between v and d -/
def lnk (v d : Nat) : Nat × Nat := (min v d, max v d)
/-- L with the first i links of row v -/
def putRow (xs : List (Int × Int)) (v : Nat) (L : List (Nat × Nat)) : Nat → List (Nat × Nat)
  | 0 => L
  | i + 1 => ins (lnk v (toA xs i).toNat) (putRow xs v L i)
/-- the links of the first v rows -/
def allLinks (G : Gr) : Nat → List (Nat × Nat)
  | 0 => []
  | v + 1 => putRow (rowA G.ps v) v (allLinks G v) (rowA G.ps v).length

theorem lnk_near {v d : Nat} (hv : v < 24) (hd : d < 24) : Near (lnk v d) := by unfold lnk Near; omega
theorem mem_putRow {xs : List (Int × Int)} {v : Nat} {L : List (Nat × Nat)} {q : Nat × Nat} : ∀ {i : Nat}, q ∈ putRow xs v L i ↔ q ∈ L ∨ ∃ j, j < i ∧ q = lnk v (toA xs j).toNat
  | 0 => by simp [putRow]
  | i + 1 => by
    rw [putRow, mem_ins, mem_putRow]
    constructor
    · rintro ((h | ⟨j, hj, e⟩) | e)
      · exact .inl h
      · exact .inr ⟨j, by omega, e⟩
      · exact .inr ⟨i, by omega, e⟩
    · rintro (h | ⟨j, hj, e⟩)
      · exact .inl (.inl h)
      · by_cases h1 : j < i
        · exact .inl (.inr ⟨j, h1, e⟩)
        · rw [show j = i by omega] at e
          exact .inr e
theorem mem_allLinks {G : Gr} {q : Nat × Nat} : ∀ {v : Nat}, q ∈ allLinks G v ↔ ∃ u, u < v ∧ ∃ j, j < (rowA G.ps u).length ∧ q = lnk u (toA (rowA G.ps u) j).toNat
  | 0 => by simp [allLinks]
  | v + 1 => by
    rw [allLinks, mem_putRow, mem_allLinks]
    constructor
    · rintro (⟨u, hu, h⟩ | ⟨j, hj, e⟩)
      · exact ⟨u, by omega, h⟩
      · exact ⟨v, by omega, j, hj, e⟩
    · rintro ⟨u, hu, h⟩
      by_cases h1 : u < v
      · exact .inl ⟨u, h1, h⟩
      · rw [show u = v by omega] at h
        exact .inr h
theorem ins_len (p : Nat × Nat) (L : List (Nat × Nat)) : (ins p L).length ≤ L.length + 1 := by
  unfold ins
  split <;> simp
theorem putRow_len (xs : List (Int × Int)) (v : Nat) (L : List (Nat × Nat)) : ∀ i, (putRow xs v L i).length ≤ L.length + i
  | 0 => by simp [putRow]
  | i + 1 => by
    rw [putRow]
    have := ins_len (lnk v (toA xs i).toNat) (putRow xs v L i)
    have := putRow_len xs v L i
    omega
theorem allLinks_len {G : Gr} (hok : ∀ v : Nat, v < G.ps.length → LinksOk (rowA G.ps v) v G.ps.length) (h24 : G.ps.length ≤ 24) : ∀ v, v ≤ G.ps.length → (allLinks G v).length ≤ v * 24
  | 0, _ => by simp [allLinks]
  | v + 1, hv => by
    rw [allLinks]
    have := putRow_len (rowA G.ps v) v (allLinks G v) (rowA G.ps v).length
    have := allLinks_len hok h24 v (by omega)
    have := (hok v (by omega)).len (by omega)
    omega

theorem mapUnder : Try.prog.underlying 75 = some (.map 84 4) := Try.underlying75

set_option maxHeartbeats 1000000 in
theorem linksOf_any (ia pa : Option Addr) (il ic pl pc : Nat) (G : Gr) (w : World) (hG : GraphAt w ia il pa pl G) (hV : ValidG G) :
    Calls Try.prog 75 #[.agg #[.slice ia il ic, .slice pa pl pc]] w fun e w' => (∃ b, e = .returned (.map (some b)) ∧ w.heap.size ≤ b ∧ LinkMap w' b (allLinks G pl)) ∧ Below w.heap.size w w' := by
  have Hpl := Lib.hid hG.pl
  have hpl1 : 1 ≤ pl := by have := hV.pos; have := hG.pl; omega
  have hpl24 : pl ≤ 24 := by have := hV.le; have := hG.pl; omega
  have HV := Lib.hid hV
  clear hV
  obtain ⟨pb, po, rfl, hpb, hrow⟩ := hG.ports.row (by have := Hpl.out; omega)
  have Hrow := Lib.hid hrow
  clear hrow
  have hmm := @run_makeMap Try.prog
  go_enter Try.func75, Try.ntmps75
  go_wp2
  clear hmm
  go_loopw [12] (fun t wr => ∃ v : Nat, v ≤ pl ∧ t = .int .i64 v ∧ Below (w.heap.size + 1) (w.alloc (.cells #[.slice ia il ic, .slice (some ⟨pb, po, none⟩) pl pc] 26)) wr ∧ w.heap.size + 1 < wr.heap.size ∧
    LinkMap wr (w.heap.size + 1) (allLinks G v)) (fun t _ => pl - (intOf t).toNat)
  case atStart =>
    refine ⟨0, Nat.zero_le _, rfl, (Below.refl _ _).alloc (by simp) _, by simp, ?_⟩
    have := LinkMap.made (w.alloc (.cells #[.slice ia il ic, .slice (some ⟨pb, po, none⟩) pl pc] 26))
    simpa [allLinks] using this
  case round =>
    obtain ⟨v, hv, rfl, hbel, hsz, hM⟩ := hrel
    have HM := Lib.hid hM
    clear hM
    by_cases hlt : v < pl
    · obtain ⟨la, lc, hcl, hL⟩ := Hrow.out v (by have := Hpl.out; omega)
      have hcl := ((belBox hbel).cell (p := ⟨pb, po + v, none⟩) hpb).trans hcl
      have hlm := hL.size
      unfold maxLen at hlm
      have HL := Lib.hid hL
      clear hL
      go_wp2
      obtain ⟨wo, rfl⟩ : ∃ wo : World, wo = wr := ⟨_, rfl⟩
      go_loopw [19] (fun t wr => ∃ i : Nat, i ≤ (rowA G.ps v).length ∧ t = .int .i64 i ∧ Below (w.heap.size + 1) (w.alloc (.cells #[.slice ia il ic, .slice (some ⟨pb, po, none⟩) pl pc] 26)) wr ∧ w.heap.size + 1 < wr.heap.size ∧
        LinkMap wr (w.heap.size + 1) (putRow (rowA G.ps v) v (allLinks G v) i)) (fun t _ => (rowA G.ps v).length - (intOf t).toNat)
      case atStart => exact ⟨0, Nat.zero_le _, rfl, hbel, hsz, HM.out⟩
      case round =>
        obtain ⟨i, hi, rfl, hbel2, hsz2, hM2⟩ := hrel
        have HM2 := Lib.hid hM2
        clear hM2
        by_cases hli : i < (rowA G.ps v).length
        · obtain ⟨lb, lo, rfl, hlb, hcs⟩ := (HL.out.below (belBox hbel2)).row (by omega)
          have hck1 := (hcs i hli).1
          have hck2 := (hcs i hli).2
          clear hcs
          have hlok := HV.out.links v (by have := Hpl.out; omega) i hli
          obtain ⟨d, hd⟩ : ∃ d : Nat, toA (rowA G.ps v) i = d := ⟨(toA (rowA G.ps v) i).toNat, by have := hlok.1; omega⟩
          have hdl : d < pl := by have := hlok.1; have := Hpl.out; omega
          have hne : v ≠ d := by have := hlok.2.1; omega
          rw [hd] at hck1
          have Hd := Lib.hid hd
          clear hd hlok
          have Hlen := Lib.hid (show (putRow (rowA G.ps v) v (allLinks G v) i).length < maxLen by
            have h1 := putRow_len (rowA G.ps v) v (allLinks G v) i
            have h2 := allLinks_len HV.out.links HV.out.le v (by have := Hpl.out; omega)
            have h3 := (HV.out.links v (by have := Hpl.out; omega)).len (by have := Hpl.out; omega)
            have := HV.out.le
            unfold maxLen; omega)
          have hN : Near (lnk v d) := lnk_near (by omega) (by omega)
          have hbel3 := hbel2.alloc (w := wr) (by omega) (.cells #[.int .i64 (d : Int), .int .i64 (wtA (rowA G.ps v) i)] 50)
          have hgo : ∀ w1 : World, LinkMap w1 (w.heap.size + 1) (ins (lnk v d) (putRow (rowA G.ps v) v (allLinks G v) i)) → LinkMap w1 (w.heap.size + 1) (putRow (rowA G.ps v) v (allLinks G v) (i + 1)) := by
            intro w1 h
            rw [putRow, Hd.out]
            exact h
          have Hgo := Lib.hid hgo
          clear hgo
          obtain ⟨hnd, hnear, D, hown0, hsize, hhas⟩ := HM2.out.kept (World.grownBy_alloc wr (.cells #[.int .i64 (d : Int), .int .i64 (wtA (rowA G.ps v) i)] 50) none) (by simp)
          have Hput := Lib.hid (fun (w1 : World) (h : w1.ownsMap Try.prog 84 (plainElem Try.prog 4) (w.heap.size + 1) ((putRow (rowA G.ps v) v (allLinks G v) i).length + 1) (D.put (linkLit (lnk v d)) (.lit (.bool true)))) => LinkMap.put1 ⟨hnd, hnear, D, hown0, hsize, hhas⟩ hN hown0 hhas hsize h)
          by_cases hvd : v < d
          · have hkey : keyOf Try.prog 84 (.agg #[.int .i64 (v : Int), .int .i64 (d : Int)]) = some (linkLit (lnk v d)) := by
              have := keyOf_link hN
              simpa [linkV, lnk, Nat.min_eq_left (Nat.le_of_lt hvd), Nat.max_eq_right (Nat.le_of_lt hvd)] using this
            go_wp2_with (at_mapUpdate; refine wpList_mapUpdate_own _ rfl _ _ _ 75 rfl 84 4 linkLaw mapUnder (plainElem Try.prog 4) (w.heap.size + 1) _ D rfl hown0 Hlen.out _ _ _ rfl rfl hkey (.lit (.bool true)) [] (plainElem_bool Try.underlying4 true) ?_; intro w1 hown1 hgrow1)
            go_roundw
            case rel => exact ⟨i + 1, by omega, by go_num, hbel3.grown hgrow1 (by simp; omega) (by rintro k ⟨⟩; omega), by have := hgrow1.size; simp at this; omega, Hgo.out _ (Hput.out _ hown1)⟩
            case measure => simp [intOf]; omega
          · have hkey : keyOf Try.prog 84 (.agg #[.int .i64 (d : Int), .int .i64 (v : Int)]) = some (linkLit (lnk v d)) := by
              have := keyOf_link hN
              simpa [linkV, lnk, Nat.min_eq_right (Nat.le_of_not_lt hvd), Nat.max_eq_left (Nat.le_of_not_lt hvd)] using this
            go_wp2_with (at_mapUpdate; refine wpList_mapUpdate_own _ rfl _ _ _ 75 rfl 84 4 linkLaw mapUnder (plainElem Try.prog 4) (w.heap.size + 1) _ D rfl hown0 Hlen.out _ _ _ rfl rfl hkey (.lit (.bool true)) [] (plainElem_bool Try.underlying4 true) ?_; intro w1 hown1 hgrow1)
            go_roundw
            case rel => exact ⟨i + 1, by omega, by go_num, hbel3.grown hgrow1 (by simp; omega) (by rintro k ⟨⟩; omega), by have := hgrow1.size; simp at this; omega, Hgo.out _ (Hput.out _ hown1)⟩
            case measure => simp [intOf]; omega
        · go_wp2
          go_roundw
          case rel => exact ⟨v + 1, by omega, by go_num, hbel2, hsz2, by
            rw [allLinks, show (rowA G.ps v).length = i by omega]
            exact HM2.out⟩
          case measure => simp [intOf]; omega
    · go_wp2
      go_ret
      exact ⟨⟨_, rfl, by omega, by rw [show pl = v by omega]; exact HM.out⟩, belBox hbel⟩
end Go.Proofs.Ytkffpipcjdhbaaa
namespace Go.Proofs.Ytkffpipcjdhbaaa
open Go.RowKit Go.Maps

/-- a range over the map of links L is under way: those of todo are still to come -/
def LinkRange (w : World) (b r : Nat) (L todo : List (Nat × Nat)) : Prop :=
  (∀ p ∈ L, Near p) ∧ (∀ p ∈ todo, p ∈ L) ∧ ∃ (D : DataW Unit) (left : Lit → Bool) (cnt : Nat), w.ranges Try.prog 84 (plainElem Try.prog 4) b r L.length D left cnt ∧ ∀ kl, left kl = true ↔ ∃ p ∈ todo, kl = linkLit p

theorem LinkRange.kept {w w' : World} {b r : Nat} {L todo : List (Nat × Nat)} {row : Option Nat} (h : LinkRange w b r L todo) (hg : w.grownBy w' row) (hb : some b ≠ row) (hr : some r ≠ row) : LinkRange w' b r L todo := by
  obtain ⟨h1, h2, D, left, cnt, h3, h4⟩ := h
  exact ⟨h1, h2, D, left, cnt, h3.kept hg hb hr, h4⟩
theorem LinkRange.alloc {w : World} {b r : Nat} {L todo : List (Nat × Nat)} (h : LinkRange w b r L todo) (o : Obj) : LinkRange (w.alloc o) b r L todo := h.kept (World.grownBy_alloc w o none) (by simp) (by simp)
theorem left_kept {w w' : World} {b r : Nat} {L todo : List (Nat × Nat)} {row : Option Nat} (h : LinkRange w b r L todo) (hg : w.grownBy w' row) (hb : some b ≠ row) (hr : some r ≠ row) : w'.rangeLeft b r = w.rangeLeft b r := by
  obtain ⟨h1, h2, D, left, cnt, h3, h4⟩ := h
  rw [h3.left_eq, (h3.kept hg hb hr).left_eq]

theorem linkRange_start {w' : World} {b r : Nat} {L : List (Nat × Nat)} {D : DataW Unit} (h1 : ∀ p ∈ L, Near p) (h5 : ∀ kl, Maps.has D kl = true ↔ ∃ p ∈ L, kl = linkLit p) (h : w'.ranges Try.prog 84 (plainElem Try.prog 4) b r L.length D (Maps.has D) (Maps.size D)) : LinkRange w' b r L L :=
  ⟨h1, fun _ h => h, D, _, _, h, h5⟩

theorem plainElem_bool_inv {v : Value} {y : DataW Unit × List MemPlace} (h : plainElem Try.prog 4 v = some y) : ∃ c : Bool, v = .bool c := by
  have hu : Try.prog.underlying 4 = some .bool := Try.underlying4
  unfold plainElem at h
  rw [hu] at h
  cases v <;> simp at h
  exact ⟨_, rfl⟩

section
variable {w : World} {ops : Array Oper} {rest : List Oper} {o : Oper} {a : Act} {Q : Exit → Act → World → Prop}
theorem wpList_next_links (hg : o.guard = none) (it : Operand) (hop : o.op = Op.next it false) (b r : Nat) (L todo : List (Nat × Nat))
    (hit : a.eval it = .pointer (some ⟨r, 0, none⟩)) (h : LinkRange w b r L todo)
    (hDone : todo = [] → wpList Try.prog ops Q rest (a.put o.dst (.tuple #[.bool false])) w)
    (hMore : ∀ (x y : Nat) (c : Value) (todo' : List (Nat × Nat)) (w' : World), (x, y) ∈ todo → (∀ q, q ∈ todo' ↔ q ∈ todo ∧ q ≠ (x, y)) → LinkRange w' b r L todo' → w'.rangeLeft b r < w.rangeLeft b r →
      w.grownBy w' (some r) → w'.heap.size = w.heap.size → (Instr.entry (.pointer (some ⟨r, 0, none⟩))).run Try.prog w' = .ok (.tuple #[.agg #[.int .i64 (x : Int), .int .i64 (y : Int)], c]) w' → wpList Try.prog ops Q rest (a.put o.dst (.tuple #[.bool true, .agg #[.int .i64 (x : Int), .int .i64 (y : Int)], c])) w') :
    wpList Try.prog ops Q (o :: rest) a w := by
  obtain ⟨h1, h2, D, left, cnt, h3, h4⟩ := h
  refine wpList_next_ranges w hg it hop 84 linkLaw (plainElem Try.prog 4) (fun x : Int × Int => .agg #[.int .i64 x.1, .int .i64 x.2]) Value.bool (fun key kl hk => by obtain ⟨u, v, e⟩ := keyOf_some hk; exact ⟨(u, v), e⟩) (fun v y hv => plainElem_bool_inv hv) b r L.length D left cnt hit h3 (fun _ hl => ?_) ?_
  · refine hDone ?_
    cases ht : todo with
    | nil => rfl
    | cons p t =>
      have := (h4 (linkLit p)).2 ⟨p, by rw [ht]; exact List.mem_cons_self, rfl⟩
      rw [hl] at this
      cases this
  · intro x c kl y w' cnt' hkey hlk _ _ hrg hlt hgr hsz hen
    obtain ⟨p, hp, rfl⟩ := (h4 kl).1 hlk
    have hnp := h1 p (h2 p hp)
    have hx := linkLaw.inj hkey (keyOf_link hnp)
    obtain ⟨p1, p2⟩ := p
    obtain ⟨x1, x2⟩ := x
    simp [linkV] at hx
    obtain ⟨rfl, rfl⟩ := hx
    refine hMore p1 p2 (.bool c) (todo.filter fun q => q ≠ (p1, p2)) w' hp (fun q => by simp) ⟨h1, fun q hq => h2 q (List.mem_filter.1 hq).1, D, _, _, hrg, fun kl => ?_⟩ (by rw [hrg.left_eq, h3.left_eq]; exact hlt) hgr hsz hen
    simp only [Bool.and_eq_true, h4]
    constructor
    · rintro ⟨⟨q, hq, rfl⟩, hne⟩
      refine ⟨q, List.mem_filter.2 ⟨hq, ?_⟩, rfl⟩
      simp only [decide_eq_true_eq]
      rintro rfl
      rw [WideAt.sameKey_self (linkLit_key hnp)] at hne
      cases hne
    · rintro ⟨q, hq, rfl⟩
      obtain ⟨hq, hne⟩ := List.mem_filter.1 hq
      refine ⟨⟨q, hq, rfl⟩, ?_⟩
      cases hs : (linkLit q).sameKey (linkLit (p1, p2)) with
      | false => rfl
      | true =>
        have := linkLit_inj (h1 q (h2 q hq)) hnp (WideAt.sameKey_eq hs)
        simp [this] at hne
end

/-- the nodes that a link of L joins to an element of set -/
def arF (set : Nat) : List (Nat × Nat) → Nat
  | [] => 0
  | p :: l => (arF set l ||| (if set.testBit p.1 then 2 ^ p.2 else 0)) ||| (if set.testBit p.2 then 2 ^ p.1 else 0)
def Hit (set j : Nat) (p : Nat × Nat) : Prop := (set.testBit p.1 = true ∧ j = p.2) ∨ (set.testBit p.2 = true ∧ j = p.1)
theorem if_bit {c : Bool} {d j : Nat} : (if c then 2 ^ d else 0 : Nat).testBit j = true ↔ c = true ∧ j = d := by
  cases c
  · simp
  · simp [Nat.testBit_two_pow]; omega
theorem arF_bit {set j : Nat} : ∀ {L : List (Nat × Nat)}, (arF set L).testBit j = true ↔ ∃ p ∈ L, Hit set j p
  | [] => by simp [arF]
  | p :: l => by
    rw [arF, Nat.testBit_or, Nat.testBit_or, Bool.or_eq_true, Bool.or_eq_true, arF_bit, if_bit, if_bit]
    constructor
    · rintro ((⟨q, hq, h⟩ | h) | h)
      · exact ⟨q, List.mem_cons_of_mem _ hq, h⟩
      · exact ⟨p, List.mem_cons_self, .inl h⟩
      · exact ⟨p, List.mem_cons_self, .inr h⟩
    · rintro ⟨q, hq, h⟩
      rcases List.mem_cons.1 hq with rfl | hq
      · rcases h with h | h
        · exact .inl (.inr h)
        · exact .inr h
      · exact .inl (.inl ⟨q, hq, h⟩)
theorem arF_lt {set : Nat} : ∀ {L : List (Nat × Nat)}, (∀ p ∈ L, Near p) → arF set L < 4294967296
  | [], _ => by simp [arF]
  | p :: l, h => by
    have hp := h p List.mem_cons_self
    have h1 : ∀ (c : Bool) (d : Nat), d < 24 → (if c then 2 ^ d else 0 : Nat) < 4294967296 := fun c d hd => by
      split
      · exact pow32 (by omega)
      · decide
    rw [arF]
    exact or_lt (or_lt (arF_lt fun q hq => h q (List.mem_cons_of_mem _ hq)) (h1 _ _ hp.2)) (h1 _ _ hp.1)

set_option maxHeartbeats 1000000 in
theorem around_any (ia pa : Option Addr) (il ic pl pc : Nat) (G : Gr) (set : Nat) (w : World) (hG : GraphAt w ia il pa pl G) (hV : ValidG G) (hset : set < 4294967296) :
    Calls Try.prog 79 #[.agg #[.slice ia il ic, .slice pa pl pc], .int .u32 (set : Int)] w fun e w' => e = .returned (.int .u32 (arF set (allLinks G pl))) ∧ Below w.heap.size w w' := by
  go_enter Try.func79, Try.ntmps79
  go_wp2_with (first
    | (go_at_call 75; refine (linksOf_any _ _ _ _ _ _ G _ (hG.alloc _) hV).mono ?_; rintro e w1 ⟨⟨b, rfl, hbge, hM⟩, hb1⟩; have hbx : Below (w.heap.size + 1) (w.alloc (.cells #[.slice ia il ic, .slice pa pl pc] 26)) w1 := (by simpa using hb1); have hbl := hM.lt; obtain ⟨hnd, hnear, D, hown, hsize, hhas⟩ := hM; have hb1 := Lib.hid hb1)
    | (at_range; refine wpList_range_own _ rfl _ 75 rfl 84 4 linkLaw mapUnder _ b _ D rfl hown ?_; intro w2 hrg2 hg2 hs2; have hLR := linkRange_start hnear hhas hrg2; have hb2 := Lib.hid (hbx.grown hg2 (by have := hbx.size; simp at this; omega) (by rintro k ⟨⟩)); clear hbx hrg2 hown hhas hsize hnd))
  have Hnear := Lib.hid hnear
  clear hnear
  simp at hbge
  go_frame
  go_loopw [5] (fun t wr => ∃ (S : Nat) (todo : List (Nat × Nat)), t = .int .u32 S ∧ S < 4294967296 ∧ LinkRange wr b w1.heap.size (allLinks G pl) todo ∧ (∀ j, S.testBit j = true ↔ ∃ p ∈ allLinks G pl, p ∉ todo ∧ Hit set j p) ∧
    Below (w.heap.size + 1) (w.alloc (.cells #[.slice ia il ic, .slice pa pl pc] 26)) wr ∧ w1.heap.size < wr.heap.size) (fun _ wr => wr.rangeLeft b w1.heap.size)
  case atStart =>
    refine ⟨0, allLinks G pl, rfl, by decide, hLR, fun j => ?_, hb2.out, by omega⟩
    simp
    exact fun a b h1 h2 => absurd h1 h2
  case round =>
    obtain ⟨S, todo, rfl, hS, hL, hbits, hbel, hsz⟩ := hrel
    have Hbits := Lib.hid hbits
    clear hbits
    go_wp2_with (at_next; refine wpList_next_links rfl _ rfl b w1.heap.size (allLinks G pl) todo rfl hL ?_ ?_)
    · intro hnil
      have Hret := Lib.hid (show arF set (allLinks G pl) = S from by
        apply Nat.eq_of_testBit_eq
        intro j
        rw [Bool.eq_iff_iff, arF_bit, Hbits.out j, hnil]
        simp)
      go_wp2
      go_ret
      exact ⟨ret_int (by rw [Hret.out]), belBox hbel⟩
    · intro x y c todo' w3 hin hto hL3 hlt hg3 hs3 hen
      have hin := hL.2.1 _ hin
      have hN := Hnear.out _ hin
      have hx24 : x < 24 := hN.1
      have hy24 : y < 24 := hN.2
      have hx24' : (x : Int) < 24 := by omega
      have hy24' : (y : Int) < 24 := by omega
      have Hto := Lib.hid hto
      clear hto hN
      have hbel3 := hbel.grown hg3 (by omega) (by rintro k ⟨⟩; omega)
      have hL4 := hL3.alloc (.cells #[.int .i64 (x : Int), .int .i64 (y : Int)] 84)
      have hm4 := left_kept hL3 (World.grownBy_alloc w3 (.cells #[.int .i64 (x : Int), .int .i64 (y : Int)] 84) none) (by simp) (by simp)
      have hbel4 := hbel3.alloc (by omega) (.cells #[.int .i64 (x : Int), .int .i64 (y : Int)] 84)
      have Hstep := Lib.hid (fun (T : Nat) (hT : ∀ j, T.testBit j = true ↔ S.testBit j = true ∨ Hit set j (x, y)) (j : Nat) => show T.testBit j = true ↔ ∃ p ∈ allLinks G pl, p ∉ todo' ∧ Hit set j p from by
        rw [hT, Hbits.out]
        constructor
        · rintro (⟨⟨p1, p2⟩, h1, h2, h3⟩ | h)
          · exact ⟨(p1, p2), h1, fun h => h2 ((Hto.out p1 p2).1 h).1, h3⟩
          · exact ⟨(x, y), hin, fun h => ((Hto.out x y).1 h).2 rfl rfl, h⟩
        · rintro ⟨⟨p1, p2⟩, h1, h2, h3⟩
          by_cases h4 : p1 = x ∧ p2 = y
          · rw [h4.1, h4.2] at h3
            exact .inr h3
          · exact .inl ⟨(p1, p2), h1, fun h => h2 ((Hto.out p1 p2).2 ⟨h, fun e1 e2 => h4 ⟨e1, e2⟩⟩), h3⟩)
      cases hbx : set.testBit x <;> cases hby : set.testBit y
      · have hb1 := bit_out hset hbx
        have hb2' := bit_out hset hby
        go_wp2
        go_roundw
        case rel => exact ⟨S, todo', rfl, hS, hL4, Hstep.out S (fun j => by simp [Hit, hbx, hby]), hbel4, by simp; omega⟩
        case measure => omega
      · have hb1 := bit_out hset hbx
        have hb2' := bit_in hset hby
        have hor := bit_or hS (show x < 32 by omega)
        go_wp2
        go_roundw
        case rel => exact ⟨S ||| 2 ^ x, todo', rfl, or_lt hS (pow32 (by omega)), hL4, Hstep.out _ (fun j => by rw [or_bit_iff]; simp [Hit, hbx, hby]), hbel4, by simp; omega⟩
        case measure => omega
      · have hb1 := bit_in hset hbx
        have hb2' := bit_out hset hby
        have hor := bit_or hS (show y < 32 by omega)
        go_wp2
        go_roundw
        case rel => exact ⟨S ||| 2 ^ y, todo', rfl, or_lt hS (pow32 (by omega)), hL4, Hstep.out _ (fun j => by rw [or_bit_iff]; simp [Hit, hbx, hby]), hbel4, by simp; omega⟩
        case measure => omega
      · have hb1 := bit_in hset hbx
        have hb2' := bit_in hset hby
        have hS2 := or_lt hS (pow32 (show y < 32 by omega))
        have hor := bit_or hS (show y < 32 by omega)
        have hor2 := bit_or hS2 (show x < 32 by omega)
        go_wp2
        go_roundw
        case rel => exact ⟨(S ||| 2 ^ y) ||| 2 ^ x, todo', rfl, or_lt hS2 (pow32 (by omega)), hL4, Hstep.out _ (fun j => by rw [or_bit_iff, or_bit_iff]; simp [Hit, hbx, hby, or_assoc]), hbel4, by simp; omega⟩
        case measure => omega
end Go.Proofs.Ytkffpipcjdhbaaa
namespace Go.Proofs.Ytkffpipcjdhbaaa
open Go.RowKit

theorem bits_and (S T : Nat) (hS : S < 4294967296) (hT : T < 4294967296) : bits .and .u32 (S:Int) (T:Int) = ((S &&& T : Nat) : Int) := u32_and_nat S T hS hT
theorem and_lt' {S T : Nat} (hS : S < 4294967296) : S &&& T < 4294967296 := Nat.lt_of_le_of_lt Nat.and_le_left hS

def hasS (S : Nat) (v : Int) : Bool := decide (0 ≤ v ∧ v < 32) && S.testBit v.toNat
theorem hasS_nat {S v : Nat} (hv : v < 32) : hasS S v = S.testBit v := by
  unfold hasS
  rw [decide_eq_true (by omega)]
  simp

def allS (n : Nat) : Nat := 2 ^ n - 1
theorem allS_bit {n j : Nat} : (allS n).testBit j = decide (j < n) := by simp [allS, Nat.testBit_two_pow_sub_one]
theorem allS_succ (n : Nat) : allS n ||| 2 ^ n = allS (n + 1) := by
  apply Nat.eq_of_testBit_eq
  intro j
  rw [Bool.eq_iff_iff, or_bit_iff, allS_bit, allS_bit]
  simp; omega
theorem allS_lt {n : Nat} (h : n ≤ 31) : allS n < 4294967296 := by
  have := pow32 (d := n) (by omega)
  unfold allS
  omega

/-- the neighbours of the elements of set -/
noncomputable def nbF (G : Gr) (set : Nat) : Nat := if validB G then arF set (allLinks G G.ps.length) else 0

/-- whether no two elements of set are neighbours -/
noncomputable def indB (G : Gr) (set : Nat) : Bool := validB G && ((set / 2 ^ G.ps.length == 0) && (set &&& nbF G set == 0))

set_option maxHeartbeats 400000 in
theorem independent_any (ia pa : Option Addr) (il ic pl pc : Nat) (G : Gr) (set : Nat) (w : World) (hG : GraphAt w ia il pa pl G) (hset : set < 4294967296) :
    Calls Try.prog 73 #[.agg #[.slice ia il ic, .slice pa pl pc], .int .u32 (set : Int)] w fun e w' => e = .returned (.bool (indB G set)) ∧ Below w.heap.size w w' := by
  have Hpl := Lib.hid hG.pl
  cases hv : validB G with
  | false =>
    have Hf : Hid (indB G set = false) := Lib.hid (by simp [indB, hv])
    go_enter Try.func73, Try.ntmps73
    go_wp2_with (go_at_call 51; refine (valid_any _ _ _ _ _ _ G _ (hG.alloc _)).mono ?_; rintro e w1 ⟨rfl, hb1⟩)
    go_ret
    exact ⟨ret_bool Hf.out.symm, ((Below.refl _ _).alloc (Nat.le_refl _) _).trans (hb1.mono (by simp))⟩
  | true =>
    have HV := Lib.hid (validB_iff.1 hv)
    have hp24 : pl ≤ 24 := by have := HV.out.le; have := Hpl.out; omega
    have hp24' : (pl : Int) < 32 := by omega
    have Hlt := Lib.hid (arF_lt (set := set) (L := allLinks G pl) (fun p hp => by
      obtain ⟨u, hu, j, hj, rfl⟩ := mem_allLinks.1 hp
      have := (HV.out.links u (by have := Hpl.out; omega) j hj).1
      have := Hpl.out
      exact lnk_near (by omega) (by omega)))
    have hand := bits_and set _ hset Hlt.out
    have Hf : Hid (indB G set = ((set / 2 ^ pl == 0) && (set &&& arF set (allLinks G pl) == 0))) := Lib.hid (by simp [indB, nbF, hv, Hpl.out])
    by_cases h1 : set / 2 ^ pl = 0
    · have hq1 : (((set : Int) / 2 ^ pl) == 0) = true := by
        have : ((set / 2 ^ pl : Nat) : Int) = 0 := by rw [h1]; rfl
        simpa using this
      have hn1 : (set / 2 ^ pl == 0) = true := by simpa using h1
      rw [hn1] at Hf
      clear h1
      have hq3 : (((set &&& arF set (allLinks G pl) : Nat) : Int) == 0) = (set &&& arF set (allLinks G pl) == 0) := by rw [Bool.eq_iff_iff]; simp only [beq_iff_eq]; omega
      cases hq2 : (set &&& arF set (allLinks G pl) == 0)
      all_goals
        rw [hq2] at Hf
        rw [hq2] at hq3
        go_enter Try.func73, Try.ntmps73
        go_wp2_with (first | (go_at_call 51; refine (valid_any _ _ _ _ _ _ G _ (hG.alloc _)).mono ?_; rintro e w1 ⟨rfl, hb1⟩; have hbx : Below (w.heap.size + 1) (w.alloc (.cells #[.slice ia il ic, .slice pa pl pc] 26)) w1 := hb1.mono (by simp); have hx0 : w1.cell? ⟨w.heap.size, 0, none⟩ = some (.slice ia il ic) := boxed hbx 0; have hx1 : w1.cell? ⟨w.heap.size, 1, none⟩ = some (.slice pa pl pc) := boxed hbx 1) | (go_at_call 79; refine (around_any _ _ _ _ _ _ G set _ (hG.below (belBox hbx)) HV.out hset).mono ?_; rintro e w2 ⟨rfl, hb2⟩))
        go_ret
        exact ⟨ret_bool (by rw [Hf.out]; rfl), (belBox hbx).trans (hb2.mono (belBox hbx).size)⟩
    · have hq1 : (((set : Int) / 2 ^ pl) == 0) = false := by
        have : ((set / 2 ^ pl : Nat) : Int) ≠ 0 := by omega
        simpa using this
      have hn1 : (set / 2 ^ pl == 0) = false := by simpa using h1
      rw [hn1] at Hf
      clear h1
      go_enter Try.func73, Try.ntmps73
      go_wp2_with (first | (go_at_call 51; refine (valid_any _ _ _ _ _ _ G _ (hG.alloc _)).mono ?_; rintro e w1 ⟨rfl, hb1⟩; have hbx : Below (w.heap.size + 1) (w.alloc (.cells #[.slice ia il ic, .slice pa pl pc] 26)) w1 := hb1.mono (by simp); have hx0 : w1.cell? ⟨w.heap.size, 0, none⟩ = some (.slice ia il ic) := boxed hbx 0; have hx1 : w1.cell? ⟨w.heap.size, 1, none⟩ = some (.slice pa pl pc) := boxed hbx 1))
      go_ret
      exact ⟨ret_bool (by rw [Hf.out]; rfl), belBox hbx⟩
end Go.Proofs.Ytkffpipcjdhbaaa
