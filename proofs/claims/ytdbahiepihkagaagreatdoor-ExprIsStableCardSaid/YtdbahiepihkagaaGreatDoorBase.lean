/- Views of a world: rows of numbers, rows of links, rows of rows of links; graphs. They stay where nothing below the heap's old size turns. -/
import Derived.Test.YtdbahiepihkagaaGreatDoorRows
import Derived.WalkKit
import Derived.WalkSpells
import Derived.WalkLawsBesides
import Derived.ProofKit
import Derived.Lib.Hide
import Derived.Lib.SmallJoins
import Derived.Deep.Slices
import Derived.Deep.QuietTactic
import Derived.BigQuiet
namespace Go.Proofs.YtdbahiepihkagaaGreatDoor
open Go.RowKit Go.ChangeShapes Go.WideShapes Go.Joins Go.Deep

theorem own : ownKnob Tryz.prog.godebug = none := by kernel_rfl
theorem laidOut : laidOutB Tryz.prog = true := by kernel_rfl

theorem ret_int {k : IntKind} {a b : Int} (h : a = b) : Ending.returned (.int k a) = .returned (.int k b) := by rw [h]
theorem ret_bool {a b : Bool} (h : a = b) : Ending.returned (.bool a) = .returned (.bool b) := by rw [h]

theorem belDraws {B : Nat} {a w : World} (h : Below B a w) (n : Nat) : Below B a (w.drewN n) := ⟨h.os, h.tape, h.output, h.size, h.block⟩

theorem set_same {w : World} {a : Addr} {u v : Value} (h : w.cell? a = some u) : (w.setCell a v).cell? a = some v := by
  first | exact World.cell?_setCell_same w a v h | exact World.cell?_setCell_same (w := w) (a := a) (v := v) h | simp [World.cell?_setCell_same, h]
theorem set_other {w : World} {a b : Addr} {v : Value} (h : a ≠ b) : (w.setCell a v).cell? b = w.cell? b := by
  first | exact World.cell?_setCell_other w a b v h | exact World.cell?_setCell_other (w := w) (a := a) (b := b) (v := v) h | simp [World.cell?_setCell_other, h]

/-- a number that fits int -/
def I64 (z : Int) : Prop := -9223372036854775808 ≤ z ∧ z ≤ 9223372036854775807

theorem cell_lt {w : World} {a : Addr} {v : Value} (h : w.cell? a = some v) : a.block < w.heap.size := by
  rcases Nat.lt_or_ge a.block w.heap.size with hl | hl
  · exact hl
  · have : w.heap[a.block]? = none := by simp [hl]
    simp [World.cell?, this] at h

/-- node and weight of the i-th link of a list; the i-th number; the i-th list -/
def toA (xs : List (Int × Int)) (i : Nat) : Int := (xs.getD i (0, 0)).1
def wtA (xs : List (Int × Int)) (i : Nat) : Int := (xs.getD i (0, 0)).2
def idA (zs : List Int) (i : Nat) : Int := zs.getD i 0
def rowA (ps : List (List (Int × Int))) (v : Nat) : List (Int × Int) := ps.getD v []

/-- A row of ints: the cells at 'a' hold 'zs'. -/
structure IntsAt (w : World) (a : Option Addr) (zs : List Int) : Prop where
  size : zs.length ≤ maxLen
  row : 0 < zs.length → ∃ b o, a = some ⟨b, o, none⟩ ∧ b < w.heap.size ∧ ∀ i, i < zs.length → w.cell? ⟨b, o + i, none⟩ = some (.int .i64 (idA zs i))
  fits : ∀ z ∈ zs, I64 z

theorem IntsAt.below {w w' : World} {a : Option Addr} {zs : List Int} (h : IntsAt w a zs) (hb : Below w.heap.size w w') : IntsAt w' a zs := by
  refine ⟨h.size, fun h0 => ?_, h.fits⟩
  obtain ⟨b, o, ha, hlt, hc⟩ := h.row h0
  exact ⟨b, o, ha, Nat.lt_of_lt_of_le hlt hb.size, fun i hi => (hb.cell (p := ⟨b, o + i, none⟩) hlt).trans (hc i hi)⟩

theorem IntsAt.fit {w : World} {a : Option Addr} {zs : List Int} (h : IntsAt w a zs) {i : Nat} (hi : i < zs.length) : I64 (idA zs i) := by
  apply h.fits
  unfold idA
  rw [List.getD_eq_getElem?_getD, List.getElem?_eq_getElem hi]
  exact List.getElem_mem hi

/-- A row of links: pairs of a node and a weight. -/
structure LinksAt (w : World) (a : Option Addr) (xs : List (Int × Int)) : Prop where
  size : xs.length ≤ maxLen
  row : 0 < xs.length → ∃ b o, a = some ⟨b, o, none⟩ ∧ b < w.heap.size ∧ ∀ i, i < xs.length →
    w.cell? ⟨b, o + i * 2, none⟩ = some (.int .i64 (toA xs i)) ∧ w.cell? ⟨b, o + i * 2 + 1, none⟩ = some (.int .i64 (wtA xs i))
  fits : ∀ x ∈ xs, I64 x.1 ∧ I64 x.2

theorem LinksAt.below {w w' : World} {a : Option Addr} {xs : List (Int × Int)} (h : LinksAt w a xs) (hb : Below w.heap.size w w') : LinksAt w' a xs := by
  refine ⟨h.size, fun h0 => ?_, h.fits⟩
  obtain ⟨b, o, ha, hlt, hc⟩ := h.row h0
  exact ⟨b, o, ha, Nat.lt_of_lt_of_le hlt hb.size, fun i hi => ⟨(hb.cell (p := ⟨b, o + i * 2, none⟩) hlt).trans (hc i hi).1, (hb.cell (p := ⟨b, o + i * 2 + 1, none⟩) hlt).trans (hc i hi).2⟩⟩

theorem LinksAt.fit {w : World} {a : Option Addr} {xs : List (Int × Int)} (h : LinksAt w a xs) {i : Nat} (hi : i < xs.length) : I64 (toA xs i) ∧ I64 (wtA xs i) := by
  apply h.fits (xs.getD i (0, 0))
  rw [List.getD_eq_getElem?_getD, List.getElem?_eq_getElem hi]
  exact List.getElem_mem hi

/-- A row of rows of links. -/
structure PortsAt (w : World) (a : Option Addr) (ps : List (List (Int × Int))) : Prop where
  size : ps.length ≤ maxLen
  row : 0 < ps.length → ∃ b o, a = some ⟨b, o, none⟩ ∧ b < w.heap.size ∧ ∀ v, v < ps.length → ∃ la lc,
    w.cell? ⟨b, o + v, none⟩ = some (.slice la (rowA ps v).length lc) ∧ LinksAt w la (rowA ps v)

theorem PortsAt.below {w w' : World} {a : Option Addr} {ps : List (List (Int × Int))} (h : PortsAt w a ps) (hb : Below w.heap.size w w') : PortsAt w' a ps := by
  refine ⟨h.size, fun h0 => ?_⟩
  obtain ⟨b, o, ha, hlt, hc⟩ := h.row h0
  refine ⟨b, o, ha, Nat.lt_of_lt_of_le hlt hb.size, fun v hv => ?_⟩
  obtain ⟨la, lc, h1, h2⟩ := hc v hv
  exact ⟨la, lc, (hb.cell (p := ⟨b, o + v, none⟩) hlt).trans h1, h2.below hb⟩

/-- The plain graph: identifiers and, for each node, its links. -/
structure Gr where
  ids : List Int
  ps : List (List (Int × Int))

/-- A graph in memory: what its two slices hold. -/
structure GraphAt (w : World) (ia : Option Addr) (il : Nat) (pa : Option Addr) (pl : Nat) (G : Gr) : Prop where
  il : il = G.ids.length
  pl : pl = G.ps.length
  ids : IntsAt w ia G.ids
  ports : PortsAt w pa G.ps

theorem GraphAt.below {w w' : World} {ia pa : Option Addr} {il pl : Nat} {G : Gr} (h : GraphAt w ia il pa pl G) (hb : Below w.heap.size w w') : GraphAt w' ia il pa pl G :=
  ⟨h.il, h.pl, h.ids.below hb, h.ports.below hb⟩

theorem GraphAt.alloc {w : World} {ia pa : Option Addr} {il pl : Nat} {G : Gr} (h : GraphAt w ia il pa pl G) (o : Obj) : GraphAt (w.alloc o) ia il pa pl G :=
  h.below ((Below.refl _ _).alloc (Nat.le_refl _) o)

/-! ### Sets of nodes: numbers of 32 bits -/
theorem pow32 {d : Nat} (hd : d < 32) : 2 ^ d < 4294967296 := by
  have : (2:Nat) ^ d < 2 ^ 32 := Nat.pow_lt_pow_right (by decide) hd
  simpa using this
theorem shl1 {d : Nat} (hd : d < 32) : ((2:Int) ^ d % 4294967296) = ((2 ^ d : Nat) : Int) := by
  have h := pow32 hd
  rw [show ((2:Int) ^ d) = ((2 ^ d : Nat) : Int) from by simp]
  generalize 2 ^ d = m at h ⊢
  omega
theorem bit_and (S d : Nat) (hS : S < 4294967296) : bits .and .u32 ((S:Int) / 2 ^ d) 1 = if S.testBit d then 1 else 0 := by
  have h1 : ((S:Int) / 2 ^ d) = ((S / 2 ^ d : Nat) : Int) := by simp
  have h2 : S / 2 ^ d < 4294967296 := Nat.lt_of_le_of_lt (Nat.div_le_self _ _) hS
  rw [h1, show (1:Int) = ((1:Nat):Int) from rfl, u32_and_nat _ _ h2 (by decide), nat_mask1]
  have h3 : S.testBit d = decide (S / 2 ^ d % 2 = 1) := by
    rw [Nat.testBit_eq_decide_div_mod_eq]
  rw [h3]
  by_cases h : S / 2 ^ d % 2 = 1
  · simp [h]
  · have : S / 2 ^ d % 2 = 0 := by omega
    simp [this]
theorem bit_in {S d : Nat} (hS : S < 4294967296) (h : S.testBit d = true) : bits .and .u32 ((S:Int) / 2 ^ d) 1 = 1 := by rw [bit_and S d hS, h]; rfl
theorem bit_out {S d : Nat} (hS : S < 4294967296) (h : S.testBit d = false) : bits .and .u32 ((S:Int) / 2 ^ d) 1 = 0 := by rw [bit_and S d hS, h]; rfl
theorem bit_or {S d : Nat} (hS : S < 4294967296) (hd : d < 32) : bits .or .u32 (S:Int) ((2:Int) ^ d % 4294967296) = ((S ||| 2 ^ d : Nat) : Int) := by
  rw [shl1 hd, u32_or_nat S _ hS (pow32 hd)]
theorem or_lt {S T : Nat} (hS : S < 4294967296) (hT : T < 4294967296) : S ||| T < 4294967296 := Nat.or_lt_two_pow (n := 32) hS hT
theorem or_bit_iff {S d j : Nat} : (S ||| 2 ^ d).testBit j = true ↔ S.testBit j = true ∨ j = d := by
  rw [Nat.testBit_or, Nat.testBit_two_pow, Bool.or_eq_true, decide_eq_true_iff]
  exact ⟨fun h => h.imp id Eq.symm, fun h => h.imp id Eq.symm⟩

/-! ### Opening an argument -/
theorem add_none (b o i : Nat) : (⟨b, o, none⟩ : Addr).add i = ⟨b, o + i, none⟩ := by
  unfold Addr.add
  split
  · subst_vars; rfl
  · rfl

theorem getD_take {α : Type} (l : List α) (d : α) {n i : Nat} (h : i < n) : (l.take n).getD i d = l.getD i d := by
  simp [List.getD, h]

section
variable {H : Type} {enc : TypeId × Value → H} {P : Program} {w : World} {base : Nat} {spare : Nat → Bool} {held : Bool}

theorem wf_I64 {z : Int} (h : (Lit.int .i64 z).wf = true) : I64 z := by
  simpa [Lit.wf, IntKind.min, IntKind.max, IntKind.signed, IntKind.bits, I64] using h

theorem ints_of {t e : TypeId} {fuel : Nat} {v : Value} {x : DataW H × List MemPlace} (ht : P.underlying t = some (.slice e)) (he : P.underlying e = some (.int .i64)) (hc : P.cellsOf e = 1)
    (h : DataW.trod enc P w base spare held fuel t [v] = some x) : ∃ a l c zs, v = .slice a l c ∧ l = zs.length ∧ IntsAt w a zs := by
  rcases open_ints ht he hc h with ⟨hcs, _⟩ | ⟨a, len, cap, zs, hcs, _, hl, hm, hz, _, hcell, hwz⟩
  · exact ⟨none, 0, 0, [], by simpa using hcs, rfl, ⟨Nat.zero_le _, fun h0 => absurd h0 (by simp), by simp⟩⟩
  · have hzl : len ≤ zs.length := by rw [hz]; split <;> omega
    refine ⟨some a, len, cap, zs.take len, by simpa using hcs, by simp; omega, ⟨by simp; omega, fun h0 => ?_, fun z hz' => wf_I64 (hwz z (List.mem_of_mem_take hz'))⟩⟩
    rw [List.length_take] at h0
    have h1 := hcell 0 (by omega)
    have hs := World.cell?_spot h1
    obtain ⟨b, o, s⟩ := a
    simp only [Addr.add] at hs
    subst hs
    refine ⟨b, o, rfl, cell_lt h1, fun i hi => ?_⟩
    rw [List.length_take] at hi
    have h2 := hcell i (by omega)
    unfold idA
    rw [getD_take zs 0 (by omega)]
    rw [add_none] at h2
    exact h2

theorem links_of {t e k : TypeId} {f0 f1 : Field} {fuel : Nat} {v : Value} {x : DataW H × List MemPlace} (ht : P.underlying t = some (.slice e)) (he : P.underlying e = some (.struct #[f0, f1])) (hone : oneCellFields P #[f0, f1] = true) (hc : P.cellsOf e = 2)
    (h0 : f0.type = k) (h1 : f1.type = k) (hk : P.underlying k = some (.int .i64))
    (h : DataW.trod enc P w base spare held fuel t [v] = some x) : ∃ a l c xs, v = .slice a l c ∧ l = xs.length ∧ LinksAt w a xs := by
  rcases open_slice ht h with ⟨hcs, _⟩ | ⟨a, len, cap, m, n, D, Pl, hcs, _, hl, hm, hmm, _, hi⟩
  · exact ⟨none, 0, 0, [], by simpa using hcs, rfl, ⟨Nat.zero_le _, fun h0 => absurd h0 (by simp), by simp⟩⟩
  · have hlm : len ≤ m := by rw [hmm]; split <;> omega
    rw [hc] at hi
    have key : ∀ i, i < len → ∃ p : Int × Int, w.cell? (a.add (i * 2)) = some (.int .i64 p.1) ∧ w.cell? (a.add (i * 2 + 1)) = some (.int .i64 p.2) ∧ I64 p.1 ∧ I64 p.2 := by
      intro i hil
      obtain ⟨cs', hcell, htr⟩ := hi i (by omega)
      obtain ⟨_, hlen, hat⟩ := World.cells?_some hcell
      match cs', hlen with
      | [c0, c1], _ =>
        obtain ⟨y0, y1, n', _, _, g0, g1⟩ := trod_struct2 he htr
        obtain ⟨o0, k0⟩ := hone_of hone 0 f0 rfl
        obtain ⟨o1, k1⟩ := hone_of hone 1 f1 rfl
        rw [o0, k0, h0] at g0
        rw [o1, k1, h1] at g1
        obtain ⟨z0, hz0, _, w0⟩ := DataW.trod_int hk (by simpa using g0)
        obtain ⟨z1, hz1, _, w1⟩ := DataW.trod_int hk (by simpa using g1)
        simp at hz0 hz1
        have a0 := hat (i := 0) (by decide)
        have a1 := hat (i := 1) (by decide)
        rw [Go.Deep.add_add] at a0 a1
        exact ⟨(z0, z1), by simpa [hz0] using a0, by simpa [hz1] using a1, wf_I64 w0, wf_I64 w1⟩
    obtain ⟨f, hf⟩ := choose_lt key
    refine ⟨some a, len, cap, (List.range len).map f, by simpa using hcs, by simp, ⟨by simp; omega, fun h0 => ?_, fun z hz => ?_⟩⟩
    · simp at h0
      have h1 := (hf 0 h0).1
      have hs := World.cell?_spot h1
      obtain ⟨b, o, s⟩ := a
      simp only [Addr.add] at hs
      subst hs
      refine ⟨b, o, rfl, cell_lt h1, fun i hi => ?_⟩
      have hi' : i < len := by simpa using hi
      have h2 := hf i hi'
      have e : ((List.range len).map f).getD i (0, 0) = f i := by simp [List.getD, hi']
      unfold toA wtA
      rw [e]
      rw [add_none, add_none] at h2
      exact ⟨h2.1, by rw [Nat.add_assoc]; exact h2.2.1⟩
    · obtain ⟨i, hi, rfl⟩ := List.mem_map.1 hz
      exact (hf i (by simpa using hi)).2.2

theorem ports_of {s t e k : TypeId} {f0 f1 : Field} {fuel : Nat} {v : Value} {x : DataW H × List MemPlace} (hs : P.underlying s = some (.slice t)) (hs1 : P.cellsOf t = 1) (ht : P.underlying t = some (.slice e)) (he : P.underlying e = some (.struct #[f0, f1])) (hone : oneCellFields P #[f0, f1] = true) (hc : P.cellsOf e = 2)
    (h0 : f0.type = k) (h1 : f1.type = k) (hk : P.underlying k = some (.int .i64))
    (h : DataW.trod enc P w base spare held fuel s [v] = some x) : ∃ a l c ps, v = .slice a l c ∧ l = ps.length ∧ PortsAt w a ps := by
  rcases open_slice1 hs hs1 h with ⟨hcs, _⟩ | ⟨a, len, cap, m, n, V, D, Pl, hcs, _, hl, hm, hmm, _, hi⟩
  · exact ⟨none, 0, 0, [], by simpa using hcs, rfl, ⟨Nat.zero_le _, fun h0 => absurd h0 (by simp)⟩⟩
  · have hlm : len ≤ m := by rw [hmm]; split <;> omega
    have key : ∀ i, i < len → ∃ p : List (Int × Int), ∃ la lc, w.cell? (a.add i) = some (.slice la p.length lc) ∧ LinksAt w la p := by
      intro i hil
      obtain ⟨hcell, htr⟩ := hi i (by omega)
      obtain ⟨la, l, lc, xs, hv, hlx, hx⟩ := links_of ht he hone hc h0 h1 hk htr
      exact ⟨xs, la, lc, by rw [hcell, hv, hlx], hx⟩
    obtain ⟨f, hf⟩ := choose_lt key
    refine ⟨some a, len, cap, (List.range len).map f, by simpa using hcs, by simp, ⟨by simp; omega, fun h0 => ?_⟩⟩
    simp at h0
    obtain ⟨_, _, h1, _⟩ := hf 0 h0
    have hs := World.cell?_spot h1
    obtain ⟨b, o, s⟩ := a
    simp only [Addr.add] at hs
    subst hs
    refine ⟨b, o, rfl, cell_lt h1, fun i hi => ?_⟩
    have hi' : i < len := by simpa using hi
    obtain ⟨la, lc, h2, h3⟩ := hf i hi'
    have e : ((List.range len).map f).getD i [] = f i := by simp [List.getD, hi']
    unfold rowA
    rw [e]
    rw [add_none] at h2
    exact ⟨la, lc, h2, h3⟩
end

end Go.Proofs.YtdbahiepihkagaaGreatDoor
