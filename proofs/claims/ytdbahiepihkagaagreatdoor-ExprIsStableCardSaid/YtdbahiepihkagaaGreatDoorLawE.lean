/- What the laws of layer 6 share: the program's words and the library's table, as a row with variables lists them. -/
import Derived.Test.YtdbahiepihkagaaGreatDoorExprLaw
import Derived.Deep.QuietTactic
import Derived.BigQuiet
import Derived.Test.YtdbahiepihkagaaGreatDoorTie
import Derived.Test.YtdbahiepihkagaaGreatDoorCards
import Derived.HandedShaped
import Derived.LaidMore
import Derived.Lay
import Derived.OpenShut
import Derived.Lib.LaidU8
import Derived.SevenTiedAt
import Derived.ChangeMaps5
namespace Go.Proofs.YtdbahiepihkagaaGreatDoor
set_option maxRecDepth 100000
open Go.RowKit

def exT : Bytes := [109, 105, 110, 40, 113, 46, 100, 41, 43, 49]
def exN : List Bytes := [[100], [112]]
def exL : List (Int × Int) := [(33, 0), (24, 0), (12, 0), (1, 1)]
def exX : Ex := .bi (33, 0) (.un (24, 0) (.leaf (12, 0))) (.leaf (1, 1))
theorem ok_cons {w : Bytes} {t : Tk} {P : Pcs} {nx : Option UInt8} (h : tokF w = .inr t) (hl : t.len = w.length) (hj : ∀ b, headP P nx = some b → joint w b = true) (hP : okP P nx) : okP ((w, []) :: P) nx :=
  ⟨⟨⟨t, h, hl⟩, closed_nil, .inl rfl, fun _ => hj⟩, hP⟩
theorem ex_ok : okP [([109, 105, 110], []), ([40], []), ([113], []), ([46], []), ([100], []), ([41], []), ([43], []), ([49], [])] none := by
  refine ok_cons (t := ⟨1, 3, 0⟩) (by decide) rfl (fun b hb => ?_) (ok_cons (t := ⟨3, 1, 0⟩) (by decide) rfl (fun b hb => ?_) (ok_cons (t := ⟨1, 1, 0⟩) (by decide) rfl (fun b hb => ?_) (ok_cons (t := ⟨3, 1, 0⟩) (by decide) rfl (fun b hb => ?_) (ok_cons (t := ⟨1, 1, 0⟩) (by decide) rfl (fun b hb => ?_) (ok_cons (t := ⟨3, 1, 0⟩) (by decide) rfl (fun b hb => ?_) (ok_cons (t := ⟨3, 1, 0⟩) (by decide) rfl (fun b hb => ?_) (ok_cons (t := ⟨2, 1, 1⟩) (by decide) rfl (fun b hb => ?_) trivial)))))))
  all_goals first
    | (cases hb; done)
    | (injection hb with hb
       subst hb
       decide)
theorem ex_spell : Spell exN 1 ([([109, 105, 110], []), ([40], []), ([113], []), ([46], []), ([100], []), ([41], []), ([43], []), ([49], [])].map (Prod.fst (β := Bytes))) exL := by
  have h1 : Spell exN 8 [[113], [46], [100]] [(12, ((0 : Nat) : Int))] := .near (by decide) (by decide) (by decide)
  have h2 := Spell.agg (w := [109, 105, 110]) (by decide) (by decide) (by decide) (h1.lift (lv := 1) (by omega) (by omega) (by omega))
  have h3 : Spell exN 8 [[49]] [(1, ((numW [49] : Nat) : Int))] := .num (by decide)
  have h4 := Spell.bin (lv := 5) (w := [43]) (by omega) (by omega) (by omega) (by decide) (h2.lift (lv := 5) (by omega) (by omega) (by omega)) (h3.lift (lv := 6) (by omega) (by omega) (by omega))
  exact h4.lift (by omega) (by omega) (by omega)
theorem ex_parse : parseF exT exN = (exL, 0, 0) := parse_text (P := [([109, 105, 110], []), ([40], []), ([113], []), ([46], []), ([100], []), ([41], []), ([43], []), ([49], [])]) (by decide) ex_ok (by decide) (by decide) ex_spell (by decide +kernel)
theorem ex_fair : fairE exL exN = true := by decide +kernel
theorem ex_text : exX.text exN = [109, 105, 110, 40, 113, 46, 100, 41, 32, 43, 32, 49] := by
  have h : decB 1 = [49] := dec_small (by omega)
  have e : exX.text exN = [109, 105, 110, 40, 113, 46, 100, 41, 32, 43, 32] ++ decB 1 := rfl
  rw [e, h]
  rfl
theorem ex_wf : exX.wf := ⟨by decide, ⟨by decide, by show arF 12 = 0; decide⟩, by show arF 1 = 0; decide⟩
theorem names_lit (w : World) (t : TypeId) (ns : List Bytes) (C : Array Value) (h : C.toList = ns.map fun l => Value.string (mkS l)) (hn : ns.length ≤ 10) : NamesAt (w.alloc (.cells C t)) (some ⟨w.heap.size, 0, none⟩) ns := by
  refine ⟨by unfold maxLen; omega, fun _ => ⟨w.heap.size, 0, rfl, by simp, fun i hi => ?_⟩⟩
  rw [Nat.zero_add, World.cell?_alloc_new, ← Array.getElem?_toList, h, List.getElem?_map, List.getElem?_eq_getElem hi, List.getD_eq_getElem?_getD, List.getElem?_eq_getElem hi]
  rfl
theorem ex_i64 : ∀ x ∈ exL, I64 x.1 ∧ I64 x.2 := by
  intro x hx
  unfold I64
  simp [exL] at hx
  rcases hx with rfl | rfl | rfl | rfl <;> decide
theorem own_some {B n c : Nat} {w : World} {a : Option Addr} {xs : List (Int × Int)} (h : OwnT B w (.slice a n c) xs) (h0 : 0 < xs.length) : ∃ g, a = some ⟨g, 0, none⟩ ∧ B ≤ g ∧ g < w.heap.size := by
  obtain ⟨a', c', e, _, hg⟩ := h.shape
  injection e with e1 _ _
  subst e1
  exact hg h0
theorem own_cap {B n c : Nat} {w : World} {a : Option Addr} {xs : List (Int × Int)} (h : OwnT B w (.slice a n c) xs) : n ≤ c := by
  rcases h.2 with ⟨e, _⟩ | ⟨g, cap, cur, e, _, _, h1, h2, _⟩
  · injection e with _ e1 e2
    omega
  · injection e with _ e1 e2
    omega
set_option maxHeartbeats 2000000 in
theorem awake6_any (w : World) (hL6 : Lay6 w) : Calls Tryz.prog 15 #[] w fun e w' => e = .returned (.bool true) ∧ Below w.heap.size w w' := by
  have HP : Hid (∀ (a : Option Addr) (W : World), NamesAt W a exN → Below w.heap.size w W → Calls Tryz.prog 16 #[.string ⟨#[109, 105, 110, 40, 113, 46, 100, 41, 43, 49]⟩, .slice a 2 2] W fun e w' => (∃ g c, e = .returned (.tuple #[.slice (some ⟨g, 0, none⟩) 4 c, .int .i64 0, .int .i64 0]) ∧ OwnT W.heap.size w' (.slice (some ⟨g, 0, none⟩) 4 c) exL ∧ g < w'.heap.size ∧ 4 ≤ c) ∧ Below W.heap.size W w') := Lib.hid (fun a W hN hBW => by
    have h := parseP_any exT a 2 exN W hN (by decide) (by decide) (fits_short (by decide) _) (hL6.below hBW (Nat.le_refl _)).words
    rw [ex_parse] at h
    refine h.mono ?_
    rintro e w' ⟨⟨a', c', rfl, O⟩, hb⟩
    obtain ⟨g, rfl, _, hg⟩ := own_some O (by decide)
    exact ⟨⟨g, c', rfl, O, hg, own_cap O⟩, hb⟩)
  have HF : Hid (∀ (a b : Option Addr) (c : Nat) (W : World), LinksAt W a exL → NamesAt W b exN → 4 ≤ c → Below w.heap.size w W → Calls Tryz.prog 20 #[.slice a 4 c, .slice b 2 2] W fun e w' => e = .returned (.tuple #[.string ⟨#[109, 105, 110, 40, 113, 46, 100, 41, 32, 43, 32, 49]⟩, .int .i64 0]) ∧ Below W.heap.size W w') := Lib.hid (fun a b c W hX hN hcap hBW => by
    have h := formatP_ok a c exL b 2 exN W hX hN (by decide) ex_fair exX rfl ex_wf hcap (hL6.below hBW (Nat.le_refl _))
    rw [ex_text] at h
    exact h)
  go_enter Tryz.func15, Tryz.ntmps15
  go_wp2_with (first
    | (go_at_call 16; refine (HP.out _ _ (names_lit _ _ exN _ rfl (by decide)) (below_alloc6 _ _)).mono ?_; rintro e w1 ⟨⟨g, c, rfl, O, hg, hcap⟩, hb1⟩; have hB1 := (below_alloc6 _ _).trans (hb1.mono (below_alloc6 _ _).size))
    | (go_at_call 20; refine (HF.out _ _ _ _ ((O.links ex_i64).below (below_alloc6 _ _)) (names_lit _ _ exN _ rfl (by decide)) hcap (hB1.trans ((below_alloc6 _ _).mono hB1.size))).mono ?_; rintro e w2 ⟨rfl, hb2⟩; have hB2 := hB1.trans (((below_alloc6 _ _).trans (hb2.mono (below_alloc6 _ _).size)).mono hB1.size); have c0 : w2.cell? ⟨g, 0, none⟩ = some (.int .i64 33) := (((below_alloc6 _ _).trans (hb2.mono (below_alloc6 _ _).size)).cell (p := ⟨g, 0, none⟩) hg).trans (O.cells (i := 0) (by decide)).1))
  go_ret
  exact ⟨rfl, hB2⟩
end Go.Proofs.YtdbahiepihkagaaGreatDoor
namespace Go.Proofs.YtdbahiepihkagaaGreatDoor
set_option maxRecDepth 100000
open Go.RowKit

theorem parse_terms {T : Bytes} {ns : List Bytes} : ∀ t ∈ (parseF T ns).1, I64 t.1 ∧ I64 t.2 := by
  intro t ht
  unfold parseF at ht
  by_cases hg : goodF ns = false
  · rw [if_pos hg] at ht
    simp at ht
  · rw [if_neg hg] at ht
    cases hs : scanB T with
    | inl x => rw [hs] at ht; simp at ht
    | inr ts =>
      rw [hs] at ht
      dsimp only at ht
      unfold Env.answer at ht
      split at ht
      · simp at ht
      · split at ht
        · simp at ht
        · have := out_terms (ns := ns) hs (good_few (by simpa using hg)) t ht
          unfold I64
          omega
theorem parse_len {T : Bytes} {ns : List Bytes} (h : Fits6 T ns) : (parseF T ns).1.length ≤ 1000 := by
  unfold parseF
  split
  · simp
  · cases hs : scanB T with
    | inl x => simp
    | inr ts =>
      dsimp only
      unfold Env.answer
      split
      · simp
      · split
        · simp
        · exact h ts hs
set_option maxHeartbeats 4000000 in
theorem exprParses_walk (W : World) (hL6 : Lay6 W) (s : ByteArray) (na : Option Addr) (nc : Nat) (ns : List Bytes) (hN : NamesAt W na ns) (hc : ns.length ≤ nc) :
    Calls Tryz.prog 3 #[.string s, .slice na ns.length nc] W fun e W' => e = .returned (.bool true) ∧ Below W.heap.size W W' := by
  have HA := Lib.hid (fun w (h : Below W.heap.size W w) => awake6_any w (hL6.below h (Nat.le_refl _)))
  have HL := Lib.hid (lightN_any na nc ns W hN)
  have hsz : s.data.toList.length = s.size := by simp
  by_cases hlong : 1000 < s.size
  · have d : (1000 : Int) < (s.size : Int) := by omega
    clear HL hN hc hsz
    generalize ns.length = m at *
    go_enter Tryz.func3, Tryz.ntmps3
    go_wp2_with (go_at_call 15; refine (HA.out _ (Below.refl _ _)).mono ?_; rintro e w1 ⟨rfl, hb⟩)
    go_ret
    exact ⟨rfl, hb⟩
  have d : decide ((1000 : Int) < (s.size : Int)) = false := by simp; omega
  cases hl : lightN ns with
  | false =>
    rw [hl] at HL
    clear hN hc hsz hl
    generalize ns.length = m at *
    go_enter Tryz.func3, Tryz.ntmps3
    go_wp2_with (first | (go_at_call 14; refine HL.out.mono ?_; rintro e w0 ⟨rfl, rfl⟩) | (go_at_call 15; refine (HA.out _ (Below.refl _ _)).mono ?_; rintro e w1 ⟨rfl, hb⟩))
    go_ret
    exact ⟨rfl, hb⟩
  | true =>
    rw [hl] at HL
    have h10 : ns.length ≤ 10 := by
      unfold lightN at hl
      rw [Bool.and_eq_true, decide_eq_true_eq] at hl
      exact hl.1
    have hfit : Fits6 s.data.toList ns := fits_short (by omega) ns
    have HP := Lib.hid (fun (w : World) (h : Below W.heap.size W w) => parseP_any s.data.toList na nc ns w (hN.below h rfl) hc h10 hfit (hL6.below h (Nat.le_refl _)).words)
    have HR := Lib.hid (fun (w : World) (h : Below W.heap.size W w) => parseR_any s.data.toList na nc ns w (hN.below h rfl) hc (by omega) hfit)
    rw [mkS_data] at HP HR
    have ht : ∀ t ∈ (parseF s.data.toList ns).1, I64 t.1 ∧ I64 t.2 := parse_terms
    have hln := parse_len hfit
    obtain ⟨x, hx⟩ : ∃ x, x = parseF s.data.toList ns := ⟨_, rfl⟩
    rw [← hx] at HP HR ht hln
    have HT := Lib.hid ht
    have HS := Lib.hid (fun (a a' : Option Addr) (c c' : Nat) (w : World) (h1 : LinksAt w a x.1) (h2 : LinksAt w a' x.1) => sameR_any a a' c c' x.1 x.1 w h1 h2 (by omega) (by omega))
    clear hx hN hc hfit hl ht h10 hsz
    generalize ns.length = m at *
    go_enter Tryz.func3, Tryz.ntmps3
    go_wp2_with (first
      | (go_at_call 14; refine HL.out.mono ?_; rintro e w0 ⟨rfl, rfl⟩)
      | (go_at_call 16; refine (HP.out _ (Below.refl _ _)).mono ?_; rintro e w1 ⟨⟨a1, c1, rfl, O1⟩, hb1⟩)
      | (go_at_call 17; refine (HR.out _ hb1).mono ?_; rintro e w2 ⟨⟨a2, c2, rfl, O2⟩, hb2⟩; have hB2 := hb1.trans (hb2.mono hb1.size))
      | (go_at_call 15; refine (HA.out _ hB2).mono ?_; rintro e w3 ⟨rfl, hb3⟩; have hB3 := hB2.trans (hb3.mono hB2.size))
      | (go_at_call 18; refine (HS.out _ _ _ _ _ (((O1.links HT.out).below hb2).below hb3) ((O2.links HT.out).below hb3)).mono ?_; rintro e w4 ⟨rfl, hb4⟩; have hB4 := hB3.trans (hb4.mono hB3.size)))
    go_ret
    exact ⟨rfl, hB4⟩
end Go.Proofs.YtdbahiepihkagaaGreatDoor
namespace Go.Proofs.YtdbahiepihkagaaGreatDoor
set_option maxRecDepth 100000
open Go.ChangeShapes Go.WideShapes Go.ChangeAt Go.RowKit

/-- the wrap of a row that lists variables, the world's shape kept -/
theorem shaped_and {H : Type} {enc : TypeId × Value → H} {a : Assume} {C : Checked} {os : Os} {f : FuncId} {fn : Func} {s : ChangeSpec} {conds : List PathCond} {apart fresh handsOn again : Bool} {X : World → Array Value → Prop}
    (hX : ∀ (w w' : World) (args : Array Value), w.heap = w'.heap → X w args → X w' args)
    (own : ownKnob C.prog.godebug = none) (started : os.Started) (noInit : C.prog.inits.idxOf? f = none) (hfn : C.prog.funcs[f]? = some fn)
    (witness : ∃ (w : World) (tape : Tape) (i : Input), w.os = os ∧ (w.forCall tape i).Shaped C.prog ∧ i.vars = [] ∧ Input.okWide C.prog (w.forCall tape i) .any w.heap.size f i ∧
      ((s.pre enc C.prog fn conds apart (w.forCall tape i).memory i.args ∧ X (w.forCall tape i).memory i.args) ∧ sizedMet enc C.prog fn (OpenSpec.ofChange s) apart (w.forCall tape i).memory i.args) ∧ a.holds C.prog (lone (Frame.enter C.prog f i.args .normal) [] (w.forCall tape i)))
    (contract : ∀ (W : World) (base : Nat) (args : Array Value) (ds gs : List (DataW H)) (before : List MemPlace),
      (∀ (j : Nat) t v, fn.params[j]? = some t → args[j]? = some v → Value.okWide C.prog W .any base t v) →
      DataW.Whole enc C.prog fn.params.toList s.vars apart W args.toList ds gs before → X W args → W.ShapedOpen C.prog →
      Calls C.prog f args W fun e W' => ∃ v, e = .returned v ∧ s.post enc C.prog fn apart fresh handsOn again W args v W') :
    ReturnsInHanded a C os f .any (fun w args => (s.pre enc C.prog fn conds apart w args ∧ X w args) ∧ sizedMet enc C.prog fn (OpenSpec.ofChange s) apart w args) (s.post enc C.prog fn apart fresh handsOn again) := by
  refine returnsInHanded_of_calls own started noInit witness ?_
  rintro w tape i _ hsh _ ⟨_, _, _, fn', hfn', _, _, _, _, hval⟩ ⟨⟨⟨ds, gs, before, hw, _⟩, hx⟩, _⟩ _
  obtain rfl : fn' = fn := Option.some.inj (hfn'.symm.trans hfn)
  refine (contract (w.forCall tape i) w.heap.size i.args ds gs before hval (DataW.Whole.of_heap (by rfl) hw) (hX _ _ _ (by rfl) hx) hsh).mono fun e W' h => ?_
  obtain ⟨v, he, hp⟩ := h
  exact he ▸ ChangeSpec.post_blind hp
theorem tab_reads {P : Program} {W : World} {name : String} {k : IntKind} {zs : List Int} {g : Nat} {t e : TypeId} {n : Nat}
    (hg : P.globalNamed name = some g) (hty : (P.globals[g]?).map (·.type) = some t) (ht : P.underlying t = some (.array n e)) (he : P.underlying e = some (.int k)) (hce : P.cellsOf e = 1) (hct : P.cellsOf t = n)
    (h : Lib.VarReads P W name (Lib.tabData k zs)) : Lib.TabIs P W name k zs := by
  obtain ⟨g', t', cs, fuel, p, hg', ht', hvar, hd⟩ := h
  obtain rfl := Option.some.inj (hg.symm.trans hg')
  obtain rfl := Option.some.inj (hty.symm.trans ht')
  unfold Lib.TabIs
  rw [hvar, ← Lib.cells_of_tab ht he hce hct hd]
theorem tb_of {W : World} {L : List (String × DataW Unit)} (hL : laidMet Tryz.prog L W) (hm : ("internal/strconv.uint64pow10", Lib.tabData .u64 Lib.pow10Tab) ∈ L) : Tb W :=
  tab_reads (show Tryz.prog.globalNamed "internal/strconv.uint64pow10" = some 1 by kernel_rfl) (by kernel_rfl) Tryz.underlying196 Tryz.underlying190 (by kernel_rfl) (by kernel_rfl) (Lib.laidMet.reads hL hm)
/-- an array of strings that reads as these texts holds them, cell for cell -/
theorem cells_of_strs {H : Type} {enc : TypeId × Value → H} {P : Program} {w : World} {base : Nat} {sp : Nat → Bool} {held : Bool} {fuel : Nat} {t e : TypeId} {n : Nat} {cs : List Value} {zs : List Bytes} {p : List MemPlace}
    (ht : P.underlying t = some (.array n e)) (he : P.underlying e = some .string) (hce : P.cellsOf e = 1) (hct : P.cellsOf t = n)
    (h : DataW.trod enc P w base sp held fuel t cs = some (.agg (zs.map fun z => .lit (.string z)), p)) : cs = zs.map fun z => Value.string (mkS z) := by
  cases fuel with
  | zero => simp [DataW.trod] at h
  | succ fuel =>
    simp only [DataW.trod, ht, hce, hct, Nat.mul_one] at h
    split at h
    · obtain ⟨xs, hm, hx⟩ := Option.map_eq_some_iff.1 h
      have hxs : xs.map (·.1) = zs.map fun z => (DataW.lit (.string z) : DataW H) := by
        have := congrArg Prod.fst hx
        simpa using this
      have hxl : xs.length = n := by simpa using Lib.mapM_length hm
      have hzl : zs.length = n := by
        have := congrArg List.length hxs
        simp at this
        omega
      apply List.ext_getElem?
      intro i
      by_cases hi : i < n
      · obtain ⟨b, hb, hf⟩ := Lib.mapM_at hm i i (by simp [hi])
        obtain ⟨s, hc, rfl, _⟩ := DataW.trod_string he hf
        have h1 : cs[i]? = some (.string s) := by
          have := congrArg (·[0]?) hc
          simpa [List.getElem?_take, List.getElem?_drop] using this
        have h2 : (xs.map (·.1))[i]? = some (DataW.lit (.string s.data.toList) : DataW H) := by simp [hb]
        rw [hxs] at h2
        simp only [List.getElem?_map, Option.map_eq_some_iff, DataW.lit.injEq, Lit.string.injEq] at h2
        obtain ⟨z, hz, hzs⟩ := h2
        rw [h1, List.getElem?_map, hz, Option.map_some, hzs, mkS_data]
      · rw [List.getElem?_eq_none (by omega), List.getElem?_eq_none (by simp; omega)]
    · cases h
theorem words_of {W : World} {L : List (String × DataW Unit)} (hL : laidMet Tryz.prog L W) (hm : ("selfstab/expr.words", Rows.laid_selfstab_expr_words) ∈ L) : Wd W := by
  obtain ⟨g', t', cs, fuel, p, hg', ht', hvar, hd⟩ := Lib.laidMet.reads hL hm
  have hg : Tryz.prog.globalNamed "selfstab/expr.words" = some 0 := by kernel_rfl
  have hty : (Tryz.prog.globals[0]?).map (·.type) = some 149 := by kernel_rfl
  obtain rfl := Option.some.inj (hg.symm.trans hg')
  obtain rfl := Option.some.inj (hty.symm.trans ht')
  have he : (Rows.laid_selfstab_expr_words : DataW Unit) = .agg ((wordL.take 43).map fun z => .lit (.string z)) := by rfl
  rw [he] at hd
  have hc := cells_of_strs Tryz.underlying149 Tryz.underlying9 (by kernel_rfl) (by kernel_rfl) hd
  have hcell : ∀ k : Nat, k < 43 → W.cell? ⟨0, k, none⟩ = some (.string (mkS (wordF (k : Int)))) := fun k hk => by
    have h1 := World.var?_cell hg hvar k
    rw [h1, ← Array.getElem?_toList, hc, List.getElem?_map, List.getElem?_take_of_lt hk]
    unfold wordF
    rw [Int.toNat_natCast, List.getD_eq_getElem?_getD, List.getElem?_eq_getElem (show k < wordL.length by show k < 44; omega)]
    rfl
  exact ⟨cell_lt (hcell 0 (by omega)), hcell⟩
end Go.Proofs.YtdbahiepihkagaaGreatDoor
