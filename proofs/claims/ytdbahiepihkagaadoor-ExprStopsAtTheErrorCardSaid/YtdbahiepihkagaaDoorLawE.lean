/- What the laws of layer 6 share: the program's words and the library's table, as a row with variables lists them. -/
import Derived.Test.YtdbahiepihkagaaDoorExprW2
import Derived.Test.YtdbahiepihkagaaDoorExprLaw
import Derived.Test.YtdbahiepihkagaaDoorTie
import Derived.Test.YtdbahiepihkagaaDoorCards
import Derived.HandedShaped
import Derived.LaidMore
import Derived.Lay
import Derived.OpenShut
import Derived.Lib.LaidU8
import Derived.SevenTiedAt
import Derived.ChangeMaps5
namespace Go.Proofs.YtdbahiepihkagaaDoor
set_option maxRecDepth 100000
open Go.RowKit

def errN : (Nat × Nat) ⊕ List Tok → Nat
  | .inl e => e.2
  | .inr _ => 0
theorem errN_zero {l : Bytes} (h : errN (scanB l) = 0) : ∃ ts, scanB l = .inr ts := by
  cases hs : scanB l with
  | inr ts => exact ⟨ts, rfl⟩
  | inl e =>
    obtain ⟨p, f⟩ := e
    have := scan_errs hs
    rw [hs] at h
    have e : f = 0 := h
    omega
theorem scanR_code (s : ByteArray) (w : World) : Calls Tryd.prog 6 #[.string s] w fun e w' => (∃ (v : Value) (p : Nat), e = .returned (.tuple #[v, .int .i64 (p : Int), .int .i64 (errN (scanB s.data.toList) : Int)])) ∧ Below w.heap.size w w' := by
  cases h : scanB s.data.toList with
  | inl x =>
    obtain ⟨p, f⟩ := x
    refine (scanR_bad_at h w).mono ?_
    rintro e w' ⟨rfl, hb⟩
    exact ⟨⟨_, p, rfl⟩, hb⟩
  | inr ts =>
    refine (scanR_ok_at h w).mono ?_
    rintro e w' ⟨⟨a, c, rfl, _, _⟩, hb⟩
    exact ⟨⟨_, 0, rfl⟩, hb⟩
theorem data_app6 (a b : ByteArray) : (a ++ b).data.toList = a.data.toList ++ b.data.toList := by simp
theorem cat6 (s m : ByteArray) : ((s ++ ⟨#[32, 10]⟩) ++ m).data.toList = s.data.toList ++ 32 :: (10 :: m.data.toList) := by
  rw [data_app6, data_app6]
  simp
theorem front6 (s : ByteArray) (p : Nat) : mkS (s.data.toList.take p) = s.extract 0 p := by
  have h : (s.extract 0 p).data.toList = s.data.toList.take p := by
    rw [ByteArray.data_extract, Array.toList_extract]
    simp
  rw [← h, mkS_data]
set_option maxHeartbeats 8000000 in
theorem exprStops_walk (W : World) (hL6 : Lay6 W) (s m : ByteArray) (na : Option Addr) (nc : Nat) (ns : List Bytes) (hN : NamesAt W na ns) (hc : ns.length ≤ nc) :
    Calls Tryd.prog 3 #[.string s, .slice na ns.length nc, .string m] W fun e W' => e = .returned (.bool true) ∧ Below W.heap.size W W' := by
  have HA := Lib.hid (fun w (h : Below W.heap.size W w) => awake6_any w (hL6.below h (Nat.le_refl _)))
  have HL := Lib.hid (lightN_any na nc ns W hN)
  have hsz : s.data.toList.length = s.size := by simp
  have hmz : m.data.toList.length = m.size := by simp
  by_cases hlong : 1000 < s.size
  · have d : (1000 : Int) < (s.size : Int) := by omega
    clear HL hN hc hsz hmz
    generalize ns.length = k at *
    go_enter Tryd.func3, Tryd.ntmps3
    go_wp2_with (go_at_call 5; refine (HA.out _ (Below.refl _ _)).mono ?_; rintro e w1 ⟨rfl, hb⟩)
    go_ret
    exact ⟨rfl, hb⟩
  have d : decide ((1000 : Int) < (s.size : Int)) = false := by simp; omega
  by_cases hml : 200 < m.size
  · have d2 : (200 : Int) < (m.size : Int) := by omega
    clear HL hN hc hsz hmz
    generalize ns.length = k at *
    go_enter Tryd.func3, Tryd.ntmps3
    go_wp2_with (go_at_call 5; refine (HA.out _ (Below.refl _ _)).mono ?_; rintro e w1 ⟨rfl, hb⟩)
    go_ret
    exact ⟨rfl, hb⟩
  have d2 : decide ((200 : Int) < (m.size : Int)) = false := by simp; omega
  cases hl : lightN ns with
  | false =>
    rw [hl] at HL
    clear hN hc hsz hmz hl
    generalize ns.length = k at *
    go_enter Tryd.func3, Tryd.ntmps3
    go_wp2_with (first | (go_at_call 4; refine HL.out.mono ?_; rintro e w0 ⟨rfl, rfl⟩) | (go_at_call 5; refine (HA.out _ (Below.refl _ _)).mono ?_; rintro e w1 ⟨rfl, hb⟩))
    go_ret
    exact ⟨rfl, hb⟩
  | true =>
    rw [hl] at HL
    have h10 := light_ten hl
    have hfit : Fits6 s.data.toList ns := fits_short (by omega) ns
    have HP := Lib.hid (fun (w : World) (h : Below W.heap.size W w) => parseP_any s.data.toList na nc ns w (hN.below h rfl) hc h10 hfit (hL6.below h (Nat.le_refl _)).words)
    rw [mkS_data] at HP
    have HS1 := Lib.hid (fun w => scanR_code s w)
    have HS2 := Lib.hid (fun w => scanR_code ((s ++ ⟨#[32, 10]⟩) ++ m) w)
    rw [cat6] at HS2
    have add1 : ∀ W, (Op.stringOp .add s ⟨#[32, 10]⟩).run Tryd.prog W = .ok (.string (s ++ ⟨#[32, 10]⟩)) W := fun W => run_string_add (P := Tryd.prog) W s ⟨#[32, 10]⟩ (by omega) (by decide)
    have hsz2 : (s ++ ⟨#[32, 10]⟩).size ≤ 1002 := by
      rw [ByteArray.size_append]
      have : (⟨#[32, 10]⟩ : ByteArray).size = 2 := rfl
      omega
    have add2 : ∀ W, (Op.stringOp .add (s ++ ⟨#[32, 10]⟩) m).run Tryd.prog W = .ok (.string ((s ++ ⟨#[32, 10]⟩) ++ m)) W := fun W => run_string_add (P := Tryd.prog) W _ m (by omega) (by omega)
    obtain ⟨x, hx⟩ : ∃ x, parseF s.data.toList ns = x := ⟨_, rfl⟩
    rw [hx] at HP
    obtain ⟨xs, at1, f⟩ := x
    -- does the law ask at all?
    by_cases hask : errN (scanB s.data.toList) = 0 ∧ errN (scanB (s.data.toList ++ 32 :: (10 :: m.data.toList))) = 0 ∧ (f = 4 ∨ f = 5) ∧ at1 ≠ s.size
    case neg =>
      have HN : Hid (¬ (errN (scanB s.data.toList) = 0 ∧ errN (scanB (s.data.toList ++ 32 :: (10 :: m.data.toList))) = 0 ∧ (f = 4 ∨ f = 5) ∧ at1 ≠ s.size)) := Lib.hid hask
      clear hask hx hN hc hl h10 hfit hsz hmz hsz2
      generalize errN (scanB s.data.toList) = f1 at *
      generalize errN (scanB (s.data.toList ++ 32 :: (10 :: m.data.toList))) = f2 at *
      generalize (s ++ ⟨#[32, 10]⟩) ++ m = sm at *
      generalize ns.length = k at *
      by_cases g1 : f1 = 0
      case neg =>
        have b1 : ((f1 : Int) == 0) = false := by simp; omega
        clear g1
        go_enter Tryd.func3, Tryd.ntmps3
        go_wp2_with (first
          | (go_at_call 4; refine HL.out.mono ?_; rintro e w0 ⟨rfl, rfl⟩)
          | (go_at_call 6; first
              | ((with_reducible refine (HS2.out _).mono ?_); rintro e w2 ⟨⟨v2, p2, rfl⟩, hb2⟩; have hB2 := hb1.trans (hb2.mono hb1.size))
              | ((with_reducible refine (HS1.out _).mono ?_); rintro e w1 ⟨⟨v1, p1, rfl⟩, hb1⟩))
          | (go_at_call 7; refine (HP.out _ hB2).mono ?_; rintro e w3 ⟨⟨a3, c3, rfl, O3⟩, hb3⟩; have hB3 := hB2.trans (hb3.mono hB2.size))
          | (go_at_call 5; refine (HA.out _ hB3).mono ?_; rintro e w4 ⟨rfl, hb4⟩; have hB4 := hB3.trans (hb4.mono hB3.size)))
        all_goals (go_ret; exact ⟨rfl, hB4⟩)
      subst g1
      by_cases g2 : f2 = 0
      case neg =>
        have b2 : ((f2 : Int) == 0) = false := by simp; omega
        clear g2
        go_enter Tryd.func3, Tryd.ntmps3
        go_wp2_with (first
          | (go_at_call 4; refine HL.out.mono ?_; rintro e w0 ⟨rfl, rfl⟩)
          | (go_at_call 6; first
              | ((with_reducible refine (HS2.out _).mono ?_); rintro e w2 ⟨⟨v2, p2, rfl⟩, hb2⟩; have hB2 := hb1.trans (hb2.mono hb1.size))
              | ((with_reducible refine (HS1.out _).mono ?_); rintro e w1 ⟨⟨v1, p1, rfl⟩, hb1⟩))
          | (go_at_call 7; refine (HP.out _ hB2).mono ?_; rintro e w3 ⟨⟨a3, c3, rfl, O3⟩, hb3⟩; have hB3 := hB2.trans (hb3.mono hB2.size))
          | (go_at_call 5; refine (HA.out _ hB3).mono ?_; rintro e w4 ⟨rfl, hb4⟩; have hB4 := hB3.trans (hb4.mono hB3.size)))
        all_goals (go_ret; exact ⟨rfl, hB4⟩)
      subst g2
      by_cases g3 : f = 4 ∨ f = 5
      case neg =>
        have b3 : ((f : Int) == 4) = false := by simp; omega
        have b4 : ((f : Int) == 5) = false := by simp; omega
        clear g3
        go_enter Tryd.func3, Tryd.ntmps3
        go_wp2_with (first
          | (go_at_call 4; refine HL.out.mono ?_; rintro e w0 ⟨rfl, rfl⟩)
          | (go_at_call 6; first
              | ((with_reducible refine (HS2.out _).mono ?_); rintro e w2 ⟨⟨v2, p2, rfl⟩, hb2⟩; have hB2 := hb1.trans (hb2.mono hb1.size))
              | ((with_reducible refine (HS1.out _).mono ?_); rintro e w1 ⟨⟨v1, p1, rfl⟩, hb1⟩))
          | (go_at_call 7; refine (HP.out _ hB2).mono ?_; rintro e w3 ⟨⟨a3, c3, rfl, O3⟩, hb3⟩; have hB3 := hB2.trans (hb3.mono hB2.size))
          | (go_at_call 5; refine (HA.out _ hB3).mono ?_; rintro e w4 ⟨rfl, hb4⟩; have hB4 := hB3.trans (hb4.mono hB3.size)))
        all_goals (go_ret; exact ⟨rfl, hB4⟩)
      have g4 : at1 = s.size := Classical.byContradiction fun h => HN.out ⟨rfl, rfl, g3, h⟩
      subst g4
      clear HN
      have b5 : ((s.size : Int) == (s.size : Int)) = true := by simp
      rcases g3 with rfl | rfl
      all_goals
        go_enter Tryd.func3, Tryd.ntmps3
        go_wp2_with (first
          | (go_at_call 4; refine HL.out.mono ?_; rintro e w0 ⟨rfl, rfl⟩)
          | (go_at_call 6; first
              | ((with_reducible refine (HS2.out _).mono ?_); rintro e w2 ⟨⟨v2, p2, rfl⟩, hb2⟩; have hB2 := hb1.trans (hb2.mono hb1.size))
              | ((with_reducible refine (HS1.out _).mono ?_); rintro e w1 ⟨⟨v1, p1, rfl⟩, hb1⟩))
          | (go_at_call 7; refine (HP.out _ hB2).mono ?_; rintro e w3 ⟨⟨a3, c3, rfl, O3⟩, hb3⟩; have hB3 := hB2.trans (hb3.mono hB2.size))
          | (go_at_call 5; refine (HA.out _ hB3).mono ?_; rintro e w4 ⟨rfl, hb4⟩; have hB4 := hB3.trans (hb4.mono hB3.size)))
        all_goals (go_ret; exact ⟨rfl, hB4⟩)
    obtain ⟨e1, e2, hf, hat⟩ := hask
    obtain ⟨ts, hs1⟩ := errN_zero e1
    obtain ⟨us, hs2⟩ := errN_zero e2
    rw [e1] at HS1
    rw [e2] at HS2
    have hst := parse_stops (ns := ns) hs1 (b := 32) (by decide) hs2 (by rw [hx]; exact hf) (by rw [hx, hsz]; exact hat)
    rw [hx] at hst
    dsimp only at hst
    obtain ⟨hle, h2, h3, h4⟩ := hst
    have hfit2 : Fits6 (s.data.toList ++ 32 :: (10 :: m.data.toList)) ns := fun us' hu => by
      rw [hs2] at hu
      injection hu with hu
      subst hu
      rw [h4]
      have a1 := out_len s.data.toList ts ns
      have a2 := scan_count hs1
      omega
    have hfit1 : Fits6 (s.data.toList.take at1) ns := fits_short (by rw [List.length_take]; omega) ns
    have HP2 := Lib.hid (fun (w : World) (h : Below W.heap.size W w) => parseP_any (s.data.toList ++ 32 :: (10 :: m.data.toList)) na nc ns w (hN.below h rfl) hc h10 hfit2 (hL6.below h (Nat.le_refl _)).words)
    have HP1 := Lib.hid (fun (w : World) (h : Below W.heap.size W w) => parseP_any (s.data.toList.take at1) na nc ns w (hN.below h rfl) hc h10 hfit1 (hL6.below h (Nat.le_refl _)).words)
    rw [← cat6, mkS_data, cat6] at HP2
    rw [front6] at HP1
    generalize parseF (s.data.toList ++ 32 :: (10 :: m.data.toList)) ns = y at *
    generalize parseF (s.data.toList.take at1) ns = z at *
    obtain ⟨ys, ya⟩ := y
    obtain ⟨zs, zp, g⟩ := z
    dsimp only at h2 h3
    subst h2
    have q0 : (0 : Int) ≤ (at1 : Int) := by omega
    have q1 : (at1 : Int) ≤ (s.size : Int) := by omega
    have b0 : decide ((at1 : Int) < 0) = false := by simp
    have b1 : decide ((s.size : Int) < (at1 : Int)) = false := by simp; omega
    have b2 : ((at1 : Int) == (s.size : Int)) = false := by simp; omega
    have b3 : ((at1 : Int) == (at1 : Int)) = true := by simp
    clear hx hN hc hl h10 hfit hsz hmz hsz2 e1 e2 hs1 hs2 hle h4 hfit1 hfit2 hat
    generalize (s ++ ⟨#[32, 10]⟩) ++ m = sm at *
    generalize ns.length = k at *
    rcases hf with rfl | rfl
    all_goals rcases h3 with rfl | rfl | ⟨rfl, rfl⟩
    all_goals
      go_enter Tryd.func3, Tryd.ntmps3
      go_wp2_with (first
        | (go_at_call 4; refine HL.out.mono ?_; rintro e w0 ⟨rfl, rfl⟩)
        | (go_at_call 6; first
            | ((with_reducible refine (HS2.out _).mono ?_); rintro e w2 ⟨⟨v2, p2, rfl⟩, hb2⟩; have hB2 := hb1.trans (hb2.mono hb1.size))
            | ((with_reducible refine (HS1.out _).mono ?_); rintro e w1 ⟨⟨v1, p1, rfl⟩, hb1⟩))
        | (go_at_call 7; first
            | ((with_reducible refine (HP2.out _ hB4).mono ?_); rintro e w5 ⟨⟨a5, c5, rfl, O5⟩, hb5⟩; have hB5 := hB4.trans (hb5.mono hB4.size))
            | ((with_reducible refine (HP1.out _ hB3).mono ?_); rintro e w4 ⟨⟨a4, c4, rfl, O4⟩, hb4⟩; have hB4 := hB3.trans (hb4.mono hB3.size))
            | ((with_reducible refine (HP.out _ hB2).mono ?_); rintro e w3 ⟨⟨a3, c3, rfl, O3⟩, hb3⟩; have hB3 := hB2.trans (hb3.mono hB2.size)))
        | (go_at_call 5; refine (HA.out _ hB5).mono ?_; rintro e w6 ⟨rfl, hb6⟩; have hB6 := hB5.trans (hb6.mono hB5.size)))
      go_ret
      exact ⟨rfl, hB6⟩
end Go.Proofs.YtdbahiepihkagaaDoor
namespace Go.Proofs.YtdbahiepihkagaaDoor
set_option maxRecDepth 100000
open Go.ChangeShapes Go.WideShapes Go.ChangeAt Go.RowKit

/-- the wrap of a row that lists variables, the world's shape kept -/
theorem shaped_and {H : Type} {enc : TypeId × Value → H} {a : Assume} {C : Checked} {os : Os} {f : FuncId} {fn : Func} {s : ChangeSpec} {conds : List PathCond} {apart fresh handsOn again : Bool} {X : World → Array Value → Prop}
    (hX : ∀ (w w' : World) (args : Array Value), w.heap = w'.heap → X w args → X w' args)
    (own : ownKnob C.prog.godebug = none) (started : os.Started) (noInit : C.prog.inits.idxOf? f = none) (hfn : C.prog.funcs[f]? = some fn)
    (witness : ∃ (w : World) (tape : Tape) (i : Input), w.os = os ∧ (w.forCall tape i).Shaped C.prog ∧ i.vars = [] ∧ Input.okWide C.prog (w.forCall tape i) .any w.heap.size f i ∧
      ((s.pre enc C.prog fn conds apart (w.forCall tape i).memory i.args ∧ X (w.forCall tape i).memory i.args) ∧ sizedMet enc C.prog fn (OpenSpec.ofChange s) apart (w.forCall tape i).memory i.args) ∧ a.holds C.prog (lone (Frame.enter C.prog f i.args .normal) [] (w.forCall tape i)))
    (contract : ∀ (W : World) (base : Nat) (args : Array Value) (ds gs : List (DataW H)) (before : List MemPlace),
      (∀ (j : Nat) t v, fn.params[j]? = some t → args[j]? = some v → Value.okWide C.prog W .any base t v) →
      DataW.Whole enc C.prog fn.params.toList s.vars apart W args.toList ds gs before → X W args → W.ShapedOpen C.prog →
      Calls C.prog f args W fun e W' => ∃ v, e = .returned v ∧ s.post enc C.prog fn apart fresh handsOn again W args v W') :
    ReturnsInHanded a C os f .any (fun w args => (s.pre enc C.prog fn conds apart w args ∧ X w args) ∧ sizedMet enc C.prog fn (OpenSpec.ofChange s) apart w args) (s.post enc C.prog fn apart fresh handsOn again) := by
  refine returnsInHanded_of_calls own started noInit witness ?_
  rintro w tape i _ hsh _ ⟨_, _, _, fn', hfn', _, _, _, _, hval⟩ ⟨⟨⟨ds, gs, before, hw, _⟩, hx⟩, _⟩ _
  obtain rfl : fn' = fn := Option.some.inj (hfn'.symm.trans hfn)
  refine (contract (w.forCall tape i) w.heap.size i.args ds gs before hval (DataW.Whole.of_heap (by rfl) hw) (hX _ _ _ (by rfl) hx) hsh).mono fun e W' h => ?_
  obtain ⟨v, he, hp⟩ := h
  exact he ▸ ChangeSpec.post_blind hp
theorem tab_reads {P : Program} {W : World} {name : String} {k : IntKind} {zs : List Int} {g : Nat} {t e : TypeId} {n : Nat}
    (hg : P.globalNamed name = some g) (hty : (P.globals[g]?).map (·.type) = some t) (ht : P.underlying t = some (.array n e)) (he : P.underlying e = some (.int k)) (hce : P.cellsOf e = 1) (hct : P.cellsOf t = n)
    (h : Lib.VarReads P W name (Lib.tabData k zs)) : Lib.TabIs P W name k zs := by
  obtain ⟨g', t', cs, fuel, p, hg', ht', hvar, hd⟩ := h
  obtain rfl := Option.some.inj (hg.symm.trans hg')
  obtain rfl := Option.some.inj (hty.symm.trans ht')
  unfold Lib.TabIs
  rw [hvar, ← Lib.cells_of_tab ht he hce hct hd]
theorem tb_of {W : World} {L : List (String × DataW Unit)} (hL : laidMet Tryd.prog L W) (hm : ("internal/strconv.uint64pow10", Lib.tabData .u64 Lib.pow10Tab) ∈ L) : Tb W :=
  tab_reads (show Tryd.prog.globalNamed "internal/strconv.uint64pow10" = some 1 by kernel_rfl) (by kernel_rfl) Tryd.underlying115 Tryd.underlying109 (by kernel_rfl) (by kernel_rfl) (Lib.laidMet.reads hL hm)
/-- an array of strings that reads as these texts holds them, cell for cell -/
theorem cells_of_strs {H : Type} {enc : TypeId × Value → H} {P : Program} {w : World} {base : Nat} {sp : Nat → Bool} {held : Bool} {fuel : Nat} {t e : TypeId} {n : Nat} {cs : List Value} {zs : List Bytes} {p : List MemPlace}
    (ht : P.underlying t = some (.array n e)) (he : P.underlying e = some .string) (hce : P.cellsOf e = 1) (hct : P.cellsOf t = n)
    (h : DataW.trod enc P w base sp held fuel t cs = some (.agg (zs.map fun z => .lit (.string z)), p)) : cs = zs.map fun z => Value.string (mkS z) := by
  cases fuel with
  | zero => simp [DataW.trod] at h
  | succ fuel =>
    simp only [DataW.trod, ht, hce, hct, Nat.mul_one] at h
    split at h
    · obtain ⟨xs, hm, hx⟩ := Option.map_eq_some_iff.1 h
      have hxs : xs.map (·.1) = zs.map fun z => (DataW.lit (.string z) : DataW H) := by
        have := congrArg Prod.fst hx
        simpa using this
      have hxl : xs.length = n := by simpa using Lib.mapM_length hm
      have hzl : zs.length = n := by
        have := congrArg List.length hxs
        simp at this
        omega
      apply List.ext_getElem?
      intro i
      by_cases hi : i < n
      · obtain ⟨b, hb, hf⟩ := Lib.mapM_at hm i i (by simp [hi])
        obtain ⟨s, hc, rfl, _⟩ := DataW.trod_string he hf
        have h1 : cs[i]? = some (.string s) := by
          have := congrArg (·[0]?) hc
          simpa [List.getElem?_take, List.getElem?_drop] using this
        have h2 : (xs.map (·.1))[i]? = some (DataW.lit (.string s.data.toList) : DataW H) := by simp [hb]
        rw [hxs] at h2
        simp only [List.getElem?_map, Option.map_eq_some_iff, DataW.lit.injEq, Lit.string.injEq] at h2
        obtain ⟨z, hz, hzs⟩ := h2
        rw [h1, List.getElem?_map, hz, Option.map_some, hzs, mkS_data]
      · rw [List.getElem?_eq_none (by omega), List.getElem?_eq_none (by simp; omega)]
    · cases h
theorem words_of {W : World} {L : List (String × DataW Unit)} (hL : laidMet Tryd.prog L W) (hm : ("selfstab/expr.words", Rows.laid_selfstab_expr_words) ∈ L) : Wd W := by
  obtain ⟨g', t', cs, fuel, p, hg', ht', hvar, hd⟩ := Lib.laidMet.reads hL hm
  have hg : Tryd.prog.globalNamed "selfstab/expr.words" = some 0 := by kernel_rfl
  have hty : (Tryd.prog.globals[0]?).map (·.type) = some 93 := by kernel_rfl
  obtain rfl := Option.some.inj (hg.symm.trans hg')
  obtain rfl := Option.some.inj (hty.symm.trans ht')
  have he : (Rows.laid_selfstab_expr_words : DataW Unit) = .agg ((wordL.take 43).map fun z => .lit (.string z)) := by rfl
  rw [he] at hd
  have hc := cells_of_strs Tryd.underlying93 Tryd.underlying9 (by kernel_rfl) (by kernel_rfl) hd
  have hcell : ∀ k : Nat, k < 43 → W.cell? ⟨0, k, none⟩ = some (.string (mkS (wordF (k : Int)))) := fun k hk => by
    have h1 := World.var?_cell hg hvar k
    rw [h1, ← Array.getElem?_toList, hc, List.getElem?_map, List.getElem?_take_of_lt hk]
    unfold wordF
    rw [Int.toNat_natCast, List.getD_eq_getElem?_getD, List.getElem?_eq_getElem (show k < wordL.length by show k < 44; omega)]
    rfl
  exact ⟨cell_lt (hcell 0 (by omega)), hcell⟩
end Go.Proofs.YtdbahiepihkagaaDoor
