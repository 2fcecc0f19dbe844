/- Programs of the rule language in memory: rows of structs, and what an argument of type api.Program reads as. -/
import Derived.Test.YtckofngclgkajaaTypD
import Derived.Lib.SmallJoins
import Derived.Deep.Strs
namespace Go.Proofs.Ytckofngclgkajaa
set_option maxRecDepth 100000
open Go.RowKit Go.ChangeShapes Go.WideShapes Go.Deep Go.Joins

/-- a row of structs of m cells -/
structure RowAt {α : Type} (m : Nat) (cells : α → List Value) (w : World) (a : Option Addr) (ss : List α) : Prop where
  size : ss.length ≤ maxLen
  row : 0 < ss.length → ∃ b o, a = some ⟨b, o, none⟩ ∧ b < w.heap.size ∧ ∀ i (h : i < ss.length) j, j < m → w.cell? ⟨b, o + i * m + j, none⟩ = (cells ss[i])[j]?
theorem RowAt.below {α : Type} {m : Nat} {cells : α → List Value} {w w' : World} {a : Option Addr} {ss : List α} (h : RowAt m cells w a ss) (hb : Below w.heap.size w w') : RowAt m cells w' a ss := by
  refine ⟨h.size, fun h0 => ?_⟩
  obtain ⟨b, o, e, hlt, hc⟩ := h.row h0
  exact ⟨b, o, e, Nat.lt_of_lt_of_le hlt hb.size, fun i hi j hj => (hb.cell (p := ⟨b, o + i * m + j, none⟩) hlt).trans (hc i hi j hj)⟩
structure VarV where
  name : ByteArray
  kind : Int
  lo : Int
  hi : Int
  pn : Int
  pid : Int
def VarV.cells (v : VarV) : List Value := [.string v.name, .int .i64 v.kind, .int .i64 v.lo, .int .i64 v.hi, .int .i64 v.pn, .int .i64 v.pid]
def VarV.Fits (v : VarV) : Prop := v.name.size ≤ maxLen ∧ I64 v.kind ∧ I64 v.lo ∧ I64 v.hi ∧ I64 v.pn ∧ I64 v.pid
structure SetV where
  var : Int
  va : Option Addr
  vc : Nat
  val : List (Int × Int)
def SetV.cells (s : SetV) : List Value := [.int .i64 s.var, .slice s.va s.val.length s.vc]
structure SetV.At (w : World) (s : SetV) : Prop where
  fits : I64 s.var
  links : LinksAt w s.va s.val
  cap : s.val.length ≤ s.vc
theorem SetV.At.below {w w' : World} {s : SetV} (h : s.At w) (hb : Below w.heap.size w w') : s.At w' := ⟨h.fits, h.links.below hb, h.cap⟩
structure RuleV where
  name : ByteArray
  ga : Option Addr
  gc : Nat
  guard : List (Int × Int)
  sa : Option Addr
  sc : Nat
  sets : List SetV
def RuleV.cells (r : RuleV) : List Value := [.string r.name, .slice r.ga r.guard.length r.gc, .slice r.sa r.sets.length r.sc]
structure RuleV.At (w : World) (r : RuleV) : Prop where
  fits : r.name.size ≤ maxLen
  links : LinksAt w r.ga r.guard
  cap : r.guard.length ≤ r.gc
  row : RowAt 2 SetV.cells w r.sa r.sets
  scap : r.sets.length ≤ r.sc
  sets : ∀ s ∈ r.sets, s.At w
theorem RuleV.At.below {w w' : World} {r : RuleV} (h : r.At w) (hb : Below w.heap.size w w') : r.At w' := ⟨h.fits, h.links.below hb, h.cap, h.row.below hb, h.scap, fun s hs => (h.sets s hs).below hb⟩
structure ProgV where
  name : ByteArray
  va : Option Addr
  vc : Nat
  vars : List VarV
  ra : Option Addr
  rc : Nat
  rules : List RuleV
def ProgV.value (p : ProgV) : Value := .agg #[.string p.name, .slice p.va p.vars.length p.vc, .slice p.ra p.rules.length p.rc]
structure ProgV.At (w : World) (p : ProgV) : Prop where
  fits : p.name.size ≤ maxLen
  vrow : RowAt 6 VarV.cells w p.va p.vars
  vcap : p.vars.length ≤ p.vc
  vars : ∀ v ∈ p.vars, v.Fits
  rrow : RowAt 3 RuleV.cells w p.ra p.rules
  rcap : p.rules.length ≤ p.rc
  rules : ∀ r ∈ p.rules, r.At w
theorem ProgV.At.below {w w' : World} {p : ProgV} (h : p.At w) (hb : Below w.heap.size w w') : p.At w' := ⟨h.fits, h.vrow.below hb, h.vcap, h.vars, h.rrow.below hb, h.rcap, fun r hr => (h.rules r hr).below hb⟩

section
variable {H : Type} {enc : TypeId × Value → H} {P : Program} {w : World} {base : Nat} {spare : Nat → Bool} {held : Bool}
theorem rowAt_of {α : Type} {t e : TypeId} {m fuel : Nat} {cells : α → List Value} {G : α → Prop} {v : Value} {x : DataW H × List MemPlace} (ht : P.underlying t = some (.slice e)) (hc : P.cellsOf e = m) (hm : 0 < m)
    (hel : ∀ fuel cs x, DataW.trod enc P w base spare held fuel e cs = some x → ∃ s, cs = cells s ∧ G s)
    (h : DataW.trod enc P w base spare held fuel t [v] = some x) : ∃ a l c ss, v = .slice a l c ∧ l = ss.length ∧ l ≤ c ∧ RowAt m cells w a ss ∧ ∀ s ∈ ss, G s := by
  rcases open_slice ht h with ⟨hcs, _⟩ | ⟨a, len, cap, n, k, D, Pl, hcs, _, hl, hx, hnn, _, hi⟩
  · exact ⟨none, 0, 0, [], by simpa using hcs, rfl, Nat.le_refl _, ⟨Nat.zero_le _, fun h0 => absurd h0 (by simp)⟩, by simp⟩
  · have hlm : len ≤ n := by rw [hnn]; split <;> omega
    rw [hc] at hi
    have key : ∀ i, i < len → ∃ s : α, (∀ j, j < m → w.cell? ((a.add (i * m)).add j) = (cells s)[j]?) ∧ G s ∧ 0 < (cells s).length := by
      intro i hil
      obtain ⟨cs', hcell, htr⟩ := hi i (by omega)
      obtain ⟨_, hlen, hat⟩ := World.cells?_some hcell
      obtain ⟨s, rfl, hG⟩ := hel _ _ _ htr
      exact ⟨s, fun j hj => hat j hj, hG, by omega⟩
    rcases Nat.eq_zero_or_pos len with h00 | h00
    · exact ⟨some a, len, cap, [], by simpa using hcs, by simpa using h00, hl, ⟨Nat.zero_le _, fun h0 => absurd h0 (by simp)⟩, by simp⟩
    obtain ⟨s0, _⟩ := key 0 h00
    letI : Inhabited α := ⟨s0⟩
    obtain ⟨f, hf⟩ := choose_lt key
    refine ⟨some a, len, cap, (List.range len).map f, by simpa using hcs, by simp, hl, ⟨by simp; omega, fun h0 => ?_⟩, fun s hs => ?_⟩
    · simp at h0
      have h1 := (hf 0 h0).1 0 hm
      have h2 := (hf 0 h0).2.2
      rw [List.getElem?_eq_getElem h2, Go.Deep.add_add] at h1
      have hs := World.cell?_spot h1
      obtain ⟨b, o, s⟩ := a
      obtain rfl : s = none := by simpa [Addr.add] using hs
      rw [add_none] at h1
      refine ⟨b, o, rfl, cell_lt h1, fun i hi j hj => ?_⟩
      have hi' : i < len := by simpa using hi
      have h3 := (hf i hi').1 j hj
      rw [Go.Deep.add_add, add_none] at h3
      rw [Nat.add_assoc, h3]
      simp
    · obtain ⟨i, hi, rfl⟩ := List.mem_map.1 hs
      exact (hf i (by simpa using hi)).2.1
theorem var_of {t e k : TypeId} {f0 f1 f2 f3 f4 f5 : Field} {fuel : Nat} {cs : List Value} {x : DataW H × List MemPlace} (ht : P.underlying t = some (.struct #[f0, f1, f2, f3, f4, f5])) (hone : oneCellFields P #[f0, f1, f2, f3, f4, f5] = true) (hc : P.cellsOf t = 6)
    (e0 : f0.type = e) (e1 : f1.type = k) (e2 : f2.type = k) (e3 : f3.type = k) (e4 : f4.type = k) (e5 : f5.type = k) (he : P.underlying e = some .string) (hk : P.underlying k = some (.int .i64))
    (h : DataW.trod enc P w base spare held fuel t cs = some x) : ∃ v : VarV, cs = v.cells ∧ v.Fits := by
  obtain ⟨xs, n, _, _, hl, hlen, hf⟩ := DataW.trod_struct ht h
  rw [hc] at hl
  match cs, hl, xs, hlen with
  | [c0, c1, c2, c3, c4, c5], _, [y0, y1, y2, y3, y4, y5], _ =>
    obtain ⟨o0, k0⟩ := hone_of hone 0 f0 rfl
    obtain ⟨o1, k1⟩ := hone_of hone 1 f1 rfl
    obtain ⟨o2, k2⟩ := hone_of hone 2 f2 rfl
    obtain ⟨o3, k3⟩ := hone_of hone 3 f3 rfl
    obtain ⟨o4, k4⟩ := hone_of hone 4 f4 rfl
    obtain ⟨o5, k5⟩ := hone_of hone 5 f5 rfl
    have g0 := hf 0 f0 rfl
    have g1 := hf 1 f1 rfl
    have g2 := hf 2 f2 rfl
    have g3 := hf 3 f3 rfl
    have g4 := hf 4 f4 rfl
    have g5 := hf 5 f5 rfl
    rw [o0, k0, e0] at g0
    rw [o1, k1, e1] at g1
    rw [o2, k2, e2] at g2
    rw [o3, k3, e3] at g3
    rw [o4, k4, e4] at g4
    rw [o5, k5, e5] at g5
    obtain ⟨s, hs, _, hw⟩ := DataW.trod_string he (show DataW.trod enc P w base spare held n e [c0] = some y0 from g0)
    obtain ⟨z1, h1, _, w1⟩ := DataW.trod_int hk (show DataW.trod enc P w base spare held n k [c1] = some y1 from g1)
    obtain ⟨z2, h2, _, w2⟩ := DataW.trod_int hk (show DataW.trod enc P w base spare held n k [c2] = some y2 from g2)
    obtain ⟨z3, h3, _, w3⟩ := DataW.trod_int hk (show DataW.trod enc P w base spare held n k [c3] = some y3 from g3)
    obtain ⟨z4, h4, _, w4⟩ := DataW.trod_int hk (show DataW.trod enc P w base spare held n k [c4] = some y4 from g4)
    obtain ⟨z5, h5, _, w5⟩ := DataW.trod_int hk (show DataW.trod enc P w base spare held n k [c5] = some y5 from g5)
    simp at hs h1 h2 h3 h4 h5
    subst hs h1 h2 h3 h4 h5
    exact ⟨⟨s, z1, z2, z3, z4, z5⟩, rfl, hw, wf_I64 w1, wf_I64 w2, wf_I64 w3, wf_I64 w4, wf_I64 w5⟩
/-- a list of terms among the data, with its capacity -/
theorem terms_of {t e k : TypeId} {f0 f1 : Field} {fuel : Nat} {v : Value} {x : DataW H × List MemPlace} (ht : P.underlying t = some (.slice e)) (he : P.underlying e = some (.struct #[f0, f1])) (hone : oneCellFields P #[f0, f1] = true) (hc : P.cellsOf e = 2)
    (h0 : f0.type = k) (h1 : f1.type = k) (hk : P.underlying k = some (.int .i64))
    (h : DataW.trod enc P w base spare held fuel t [v] = some x) : ∃ a c xs, v = .slice a xs.length c ∧ LinksAt w a xs ∧ xs.length ≤ c := by
  obtain ⟨a, l, c, xs, rfl, rfl, hX⟩ := links_of ht he hone hc h0 h1 hk h
  refine ⟨a, c, xs, rfl, hX, ?_⟩
  rcases open_slice ht h with ⟨hcs, _⟩ | ⟨a', len, cap, m, n, D, Pl, hcs, _, hl, _⟩
  · injection hcs with hcs _
    injection hcs with _ e1 e2
    omega
  · injection hcs with hcs _
    injection hcs with _ e1 e2
    omega
end
theorem set_in {H : Type} {enc : TypeId × Value → H} {w : World} {base : Nat} {spare : Nat → Bool} {held : Bool} (fuel : Nat) (cs : List Value) (x : DataW H × List MemPlace) (h : DataW.trod enc Try.prog w base spare held fuel 54 cs = some x) : ∃ s : SetV, cs = s.cells ∧ s.At w := by
  obtain ⟨y0, y1, n, _, hl, g0, g1⟩ := trod_struct2 Try.underlying54 h
  rw [show Try.prog.cellsOf 54 = 2 by kernel_rfl] at hl
  match cs, hl with
  | [c0, c1], _ =>
    have h0 : DataW.trod enc Try.prog w base spare held n 3 [c0] = some y0 := by
      rw [show Try.prog.cellsOf _ = 1 by kernel_rfl] at g0
      exact g0
    have h1 : DataW.trod enc Try.prog w base spare held n 22 [c1] = some y1 := by
      rw [show Try.prog.cellsOf _ = 1 by kernel_rfl] at g1
      exact g1
    obtain ⟨z, hz, _, wz⟩ := DataW.trod_int Try.underlying3 h0
    obtain ⟨a, c, ys, rfl, hX, hc⟩ := terms_of Try.underlying22 Try.underlying38 (by kernel_rfl) (by kernel_rfl) rfl rfl Try.underlying3 h1
    simp at hz
    subst hz
    exact ⟨⟨z, a, c, ys⟩, rfl, wf_I64 wz, hX, hc⟩
theorem rule_in {H : Type} {enc : TypeId × Value → H} {w : World} {base : Nat} {spare : Nat → Bool} {held : Bool} (fuel : Nat) (cs : List Value) (x : DataW H × List MemPlace) (h : DataW.trod enc Try.prog w base spare held fuel 51 cs = some x) : ∃ r : RuleV, cs = r.cells ∧ r.At w := by
  obtain ⟨y0, y1, y2, n, _, hl, g0, g1, g2⟩ := trod_struct3 Try.underlying51 h
  rw [show Try.prog.cellsOf 51 = 3 by kernel_rfl] at hl
  match cs, hl with
  | [c0, c1, c2], _ =>
    have h0 : DataW.trod enc Try.prog w base spare held n 9 [c0] = some y0 := by
      rw [show Try.prog.cellsOf _ = 1 by kernel_rfl] at g0
      exact g0
    have h1 : DataW.trod enc Try.prog w base spare held n 22 [c1] = some y1 := by
      rw [show Try.prog.cellsOf _ = 1 by kernel_rfl] at g1
      exact g1
    have h2 : DataW.trod enc Try.prog w base spare held n 49 [c2] = some y2 := by
      rw [show Try.prog.cellsOf _ = 1 by kernel_rfl] at g2
      exact g2
    obtain ⟨s, hs, _, ws⟩ := DataW.trod_string Try.underlying9 h0
    obtain ⟨a, c, ys, rfl, hX, hc⟩ := terms_of Try.underlying22 Try.underlying38 (by kernel_rfl) (by kernel_rfl) rfl rfl Try.underlying3 h1
    obtain ⟨a2, l2, c2, ss, rfl, rfl, hc2, hR, hS⟩ := rowAt_of (m := 2) Try.underlying49 (by kernel_rfl) (by decide) (fun f cs x h => set_in f cs x h) h2
    simp at hs
    subst hs
    exact ⟨⟨s, a, c, ys, a2, c2, ss⟩, rfl, ws, hX, hc, hR, hc2, hS⟩
/-- a program among the arguments -/
theorem open_program {H : Type} {enc : TypeId × Value → H} {w : World} {base : Nat} {spare : Nat → Bool} {held : Bool} {r : Reach} {b0 : Nat} {v : Value} {d : DataW H} {p : List MemPlace}
    (hv : Value.okWide Try.prog w r b0 33 v) (h : DataW.Trod enc Try.prog w base spare held 33 v d p) : ∃ P : ProgV, v = P.value ∧ P.At w := by
  obtain ⟨v0, v1, v2, y0, y1, y2, n, rfl, _, _, h0, h1, h2⟩ := open_agg3 Try.underlying33 (by kernel_rfl) (by kernel_rfl) hv h
  obtain ⟨s, hs, _, ws⟩ := DataW.trod_string Try.underlying9 h0
  obtain ⟨a1, l1, c1, vs, rfl, rfl, hc1, hR1, hV⟩ := rowAt_of (m := 6) (cells := VarV.cells) (G := VarV.Fits) Try.underlying30 (by kernel_rfl) (by decide) (fun _ _ _ h => var_of Try.underlying56 (by kernel_rfl) (by kernel_rfl) rfl rfl rfl rfl rfl rfl Try.underlying9 Try.underlying3 h) h1
  obtain ⟨a2, l2, c2, rs, rfl, rfl, hc2, hR2, hS⟩ := rowAt_of (m := 3) Try.underlying31 (by kernel_rfl) (by decide) (fun f cs x h => rule_in f cs x h) h2
  simp at hs
  subst hs
  exact ⟨⟨s, a1, c1, vs, a2, c2, rs⟩, rfl, ws, hR1, hc1, hV, hR2, hc2, hS⟩
end Go.Proofs.Ytckofngclgkajaa
