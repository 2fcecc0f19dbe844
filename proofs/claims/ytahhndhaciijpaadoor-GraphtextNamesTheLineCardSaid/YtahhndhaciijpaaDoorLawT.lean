/- What the laws of layer 2 share: what Parse answers, as a function of the text; the conditions of a row with tables. -/
import Derived.Test.YtahhndhaciijpaaDoorAwakeT
import Derived.Test.YtahhndhaciijpaaDoorTie
import Derived.Test.YtahhndhaciijpaaDoorCards
import Derived.HandedShaped
import Derived.LaidMore
import Derived.Lay
import Derived.OpenShut
import Derived.Lib.LaidU8
import Derived.SevenTiedAt
namespace Go.Proofs.YtahhndhaciijpaaDoor
open Go.ChangeShapes Go.WideShapes Go.ChangeAt Go.RowKit

def emptyG : Gr := ⟨[], []⟩
theorem empty_at (w : World) : GraphAt w none 0 none 0 emptyG := ⟨rfl, rfl, ⟨Nat.zero_le _, fun h => absurd h (by decide), fun z hz => by simp [emptyG] at hz⟩, ⟨Nat.zero_le _, fun h => absurd h (by decide)⟩⟩
open Classical in
/-- the line, the error and the graph that Parse answers -/
noncomputable def outcome (t : Bytes) : Int × Int × Gr :=
  if 16384 < t.length then (0, 3, emptyG) else match textB t with
    | .inl k => ((k : Int), 4, emptyG)
    | .inr xs => if validB (grOf xs) = true then (0, 0, grOf xs) else (0, 1, emptyG)
def OutSays (t : Bytes) (e : Ending) (w' : World) : Prop := ∃ ia il ic pa pl pc, e = parseRet (.slice ia il ic) (.slice pa pl pc) (outcome t).1 (outcome t).2.1 ∧ GraphAt w' ia il pa pl (outcome t).2.2
theorem parse_out {t : Bytes} {e : Ending} {w' : World} (h : ParseSays t e w') : OutSays t e w' := by
  unfold OutSays
  rcases h with ⟨h, rfl⟩ | ⟨h, k, h1, rfl⟩ | ⟨h, xs, h1, h2, rfl⟩ | ⟨h, xs, h1, h2, ia, il, ic, pa, pl, pc, rfl, hG⟩
  · have e : outcome t = (0, 3, emptyG) := by unfold outcome; rw [if_pos h]
    rw [e]
    exact ⟨none, 0, 0, none, 0, 0, rfl, empty_at _⟩
  · have e : outcome t = ((k : Int), 4, emptyG) := by unfold outcome; rw [if_neg (by omega), h1]
    rw [e]
    exact ⟨none, 0, 0, none, 0, 0, rfl, empty_at _⟩
  · have e : outcome t = (0, 1, emptyG) := by unfold outcome; rw [if_neg (by omega), h1]; simp [h2]
    rw [e]
    exact ⟨none, 0, 0, none, 0, 0, rfl, empty_at _⟩
  · have e : outcome t = (0, 0, grOf xs) := by unfold outcome; rw [if_neg (by omega), h1]; simp [h2]
    rw [e]
    exact ⟨ia, il, ic, pa, pl, pc, rfl, hG⟩

/-! ### A row with tables -/
theorem gl_of {W : World} (h : W.ShapedOpen Tryd.prog) : Gl W := Tryd.laysM146.s1_3 W h
theorem tab_reads {P : Program} {W : World} {name : String} {k : IntKind} {zs : List Int} {g : Nat} {t e : TypeId} {n : Nat}
    (hg : P.globalNamed name = some g) (hty : (P.globals[g]?).map (·.type) = some t) (ht : P.underlying t = some (.array n e)) (he : P.underlying e = some (.int k)) (hce : P.cellsOf e = 1) (hct : P.cellsOf t = n)
    (h : Lib.VarReads P W name (Lib.tabData k zs)) : Lib.TabIs P W name k zs := by
  obtain ⟨g', t', cs, fuel, p, hg', ht', hvar, hd⟩ := h
  obtain rfl := Option.some.inj (hg.symm.trans hg')
  obtain rfl := Option.some.inj (hty.symm.trans ht')
  unfold Lib.TabIs
  rw [hvar, ← Lib.cells_of_tab ht he hce hct hd]
/-- the wrap of a row that lists variables, the world's shape kept -/
theorem shaped_and {H : Type} {enc : TypeId × Value → H} {a : Assume} {C : Checked} {os : Os} {f : FuncId} {fn : Func} {s : ChangeSpec} {conds : List PathCond} {apart fresh handsOn again : Bool} {X : World → Array Value → Prop}
    (hX : ∀ (w w' : World) (args : Array Value), w.heap = w'.heap → X w args → X w' args)
    (own : ownKnob C.prog.godebug = none) (started : os.Started) (noInit : C.prog.inits.idxOf? f = none) (hfn : C.prog.funcs[f]? = some fn)
    (witness : ∃ (w : World) (tape : Tape) (i : Input), w.os = os ∧ (w.forCall tape i).Shaped C.prog ∧ i.vars = [] ∧ Input.okWide C.prog (w.forCall tape i) .any w.heap.size f i ∧
      ((s.pre enc C.prog fn conds apart (w.forCall tape i).memory i.args ∧ X (w.forCall tape i).memory i.args) ∧ sizedMet enc C.prog fn (OpenSpec.ofChange s) apart (w.forCall tape i).memory i.args) ∧ a.holds C.prog (lone (Frame.enter C.prog f i.args .normal) [] (w.forCall tape i)))
    (contract : ∀ (W : World) (base : Nat) (args : Array Value) (ds gs : List (DataW H)) (before : List MemPlace),
      (∀ (j : Nat) t v, fn.params[j]? = some t → args[j]? = some v → Value.okWide C.prog W .any base t v) →
      DataW.Whole enc C.prog fn.params.toList s.vars apart W args.toList ds gs before → X W args → W.ShapedOpen C.prog →
      Calls C.prog f args W fun e W' => ∃ v, e = .returned v ∧ s.post enc C.prog fn apart fresh handsOn again W args v W') :
    ReturnsInHanded a C os f .any (fun w args => (s.pre enc C.prog fn conds apart w args ∧ X w args) ∧ sizedMet enc C.prog fn (OpenSpec.ofChange s) apart w args) (s.post enc C.prog fn apart fresh handsOn again) := by
  refine returnsInHanded_of_calls own started noInit witness ?_
  rintro w tape i _ hsh _ ⟨_, _, _, fn', hfn', _, _, _, _, hval⟩ ⟨⟨⟨ds, gs, before, hw, _⟩, hx⟩, _⟩ _
  obtain rfl : fn' = fn := Option.some.inj (hfn'.symm.trans hfn)
  refine (contract (w.forCall tape i) w.heap.size i.args ds gs before hval (DataW.Whole.of_heap (by rfl) hw) (hX _ _ _ (by rfl) hx) hsh).mono fun e W' h => ?_
  obtain ⟨v, he, hp⟩ := h
  exact he ▸ ChangeSpec.post_blind hp
end Go.Proofs.YtahhndhaciijpaaDoor
