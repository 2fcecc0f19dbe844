/- The example of the chapter: it is read, and written; what awake of layer 6's laws answers. -/
import Derived.Test.YtokmehjofboflaaGreatDoorExprWf
import Derived.SliceStrings
import Derived.Deep.QuietTactic
import Derived.BigQuiet
namespace Go.Proofs.YtokmehjofboflaaGreatDoor
set_option maxRecDepth 100000
open Go.RowKit

theorem written_ne {ns : List Bytes} {lv : Nat} {T : Bytes} {e : List (Int × Int)} {P : Pcs} (h : Written ns lv T e P) : T ≠ [] := by
  obtain ⟨w, g, Q, b, l, h1, h2, _⟩ := h.head
  rw [← h.text, h1, h2]
  simp [textP]
theorem ex_all (U : Wup) (hU : U.Ok) : ∀ (x : Ex), x.wf → x.flat.all (fun t => argB t U.ns.length) = true → CO U x ∧ EX U x
  | .leaf t, hw, ha => by
    have ht := sized_short (text_sized hU.good (.leaf t) hw ha) (Nat.le_refl _)
    have hC : CO U (.leaf t) := co_any U hU (.leaf t) [] rfl _ rfl (by show 0 ≤ arF t.1; have : arF t.1 = 0 := hw; omega)
      (fun _ => ⟨rfl, fun w l ys h hl => aloneW U hU t hw (all_cons ha).1 w l ys h hl⟩)
      (fun h => by have : arF t.1 = 0 := hw; change arF t.1 = 1 at h; omega) (fun h => by have : arF t.1 = 0 := hw; change arF t.1 = 2 at h; omega) (fun h => by have : arF t.1 = 0 := hw; change arF t.1 = 3 at h; omega)
    exact ⟨hC, ex_of U hU _ hC ht⟩
  | .un t a, hw, ha => by
    have ht := sized_short (text_sized hU.good (.un t a) hw ha) (Nat.le_refl _)
    obtain ⟨_, a2⟩ := all_cons ha
    obtain ⟨ca, ea⟩ := ex_all U hU a hw.2 a2
    have hta := sized_short (text_sized hU.good a hw.2 a2) (Nat.le_refl _)
    have hC : CO U (.un t a) := co_any U hU (.un t a) a.flat rfl _ rfl (by show 0 ≤ arF t.1; have := hw.1; omega)
      (fun h => by have := hw.1; change arF t.1 = 0 at h; omega)
      (fun _ w l ys h hl => oneW U hU t a hw.1 ea (br_of U a ca) hta w l ys h hl)
      (fun h => by have := hw.1; change arF t.1 = 2 at h; omega) (fun h => by have := hw.1; change arF t.1 = 3 at h; omega)
    exact ⟨hC, ex_of U hU _ hC ht⟩
  | .bi t a b, hw, ha => by
    have ht := sized_short (text_sized hU.good (.bi t a b) hw ha) (Nat.le_refl _)
    obtain ⟨_, a2⟩ := all_cons ha
    obtain ⟨a3, a4⟩ := all_app a2
    obtain ⟨ca, ea⟩ := ex_all U hU a hw.2.1 a3
    obtain ⟨cb, eb⟩ := ex_all U hU b hw.2.2 a4
    have hta := sized_short (text_sized hU.good a hw.2.1 a3) (Nat.le_refl _)
    have hC : CO U (.bi t a b) := co_any U hU (.bi t a b) (a.flat ++ b.flat) rfl _ rfl (by show 0 ≤ arF t.1; have := hw.1; omega)
      (fun h => by have := hw.1; change arF t.1 = 0 at h; omega) (fun h => by have := hw.1; change arF t.1 = 1 at h; omega)
      (fun _ w l ys h hl => twoW U hU t a b hw.1 ea eb hta (flat_pos a) w l ys h hl)
      (fun h => by have := hw.1; change arF t.1 = 3 at h; omega)
    exact ⟨hC, ex_of U hU _ hC ht⟩
  | .cond t c a b, hw, ha => by
    have ht := sized_short (text_sized hU.good (.cond t c a b) hw ha) (Nat.le_refl _)
    obtain ⟨_, a2⟩ := all_cons ha
    obtain ⟨a3, a4⟩ := all_app a2
    obtain ⟨a5, a6⟩ := all_app a4
    obtain ⟨cc, ec⟩ := ex_all U hU c hw.2.1 a3
    obtain ⟨ca, ea⟩ := ex_all U hU a hw.2.2.1 a5
    obtain ⟨cb, eb⟩ := ex_all U hU b hw.2.2.2 a6
    have htc := sized_short (text_sized hU.good c hw.2.1 a3) (Nat.le_refl _)
    have hta := sized_short (text_sized hU.good a hw.2.2.1 a5) (Nat.le_refl _)
    have hC : CO U (.cond t c a b) := co_any U hU (.cond t c a b) (c.flat ++ (a.flat ++ b.flat)) rfl _ rfl (by show 0 ≤ arF t.1; have := hw.1; omega)
      (fun h => by have := hw.1; change arF t.1 = 0 at h; omega) (fun h => by have := hw.1; change arF t.1 = 1 at h; omega) (fun h => by have := hw.1; change arF t.1 = 2 at h; omega)
      (fun _ w l ys h hl => threeW U t c a b ec ea eb htc hta (flat_pos c) (flat_pos a) w l ys h hl)
    exact ⟨hC, ex_of U hU _ hC ht⟩
/-- what the laws' worlds hold of the program's and the library's variables -/
structure Lay6 (w : World) : Prop where
  words : Wd w
  tab : Tb w
theorem Lay6.below {w w' : World} {B : Nat} (h : Lay6 w) (hb : Below B w w') (hB : w.heap.size ≤ B) : Lay6 w' := ⟨h.words.below hb hB, h.tab.below hb hB⟩
theorem wnew (w : World) (b o : Nat) (c : Nat) (xs : List (Int × Int)) (na : Option Addr) (nc : Nat) (ns : List Bytes) (hc : xs.length ≤ c) : WIs ⟨w, b, o, xs, na, nc, ns⟩ (w.alloc (.cells #[.pointer none, .slice none 0 0, .slice (some ⟨b, o, none⟩) xs.length c, .slice na ns.length nc] 57)) [] xs :=
  .inl ⟨below_alloc6 _ _, _, _, c, heap_alloc_new w _, World.ownsRow_nil _ _ _ _, hc, 0, by simp, rfl, fun _ => by simp⟩
set_option maxHeartbeats 2000000 in
theorem formatP_bad (a : Option Addr) (c : Nat) (xs : List (Int × Int)) (na : Option Addr) (nc : Nat) (ns : List Bytes) (w : World) (hX : LinksAt w a xs) (hN : NamesAt w na ns) (hc : ns.length ≤ nc) (hn : ns.length ≤ 10) (hx : xs.length ≤ 250) (hf : fairE xs ns = false) :
    Calls Tryz.prog 15 #[.slice a xs.length c, .slice na ns.length nc] w fun e w' => e = .returned (.tuple #[.string (mkS []), .int .i64 7]) ∧ Below w.heap.size w w' := by
  have HG := Lib.hid (goodP_any na nc ns w hN hc (by omega))
  have HV := Lib.hid (validP_any a c xs ns.length w hX (by omega) (by unfold I64; omega))
  unfold fairE at hf
  clear hX hN hc hn hx
  generalize xs.length = m at *
  generalize validE xs ns.length = v at *
  generalize ns.length = nn at *
  cases hg : goodF ns with
  | false =>
    rw [hg] at HG
    clear HV hf hg
    go_enter Tryz.func15, Tryz.ntmps15
    go_wp2_with (go_at_call 19; refine HG.out.mono ?_; rintro e w1 ⟨rfl, rfl⟩)
    go_ret2
    exact ⟨rfl, Below.refl _ _⟩
  | true =>
    rw [hg] at HG
    rw [hg, Bool.true_and] at hf
    subst hf
    clear hg
    go_enter Tryz.func15, Tryz.ntmps15
    go_wp2_with (first | (go_at_call 19; refine HG.out.mono ?_; rintro e w1 ⟨rfl, rfl⟩) | (go_at_call 22; refine HV.out.mono ?_; rintro e w2 ⟨rfl, hb2⟩))
    go_ret2
    exact ⟨rfl, hb2⟩
set_option maxHeartbeats 2000000 in
theorem formatP_ok (a : Option Addr) (c : Nat) (xs : List (Int × Int)) (na : Option Addr) (nc : Nat) (ns : List Bytes) (w : World) (hX : LinksAt w a xs) (hN : NamesAt w na ns) (hc : ns.length ≤ nc) (hf : fairE xs ns = true) (x : Ex) (hx : x.flat = xs) (hw : x.wf) (hcap : xs.length ≤ c) (hL : Lay6 w) :
    Calls Tryz.prog 15 #[.slice a xs.length c, .slice na ns.length nc] w fun e w' => e = .returned (.tuple #[.string (mkS (x.text ns)), .int .i64 0]) ∧ Below w.heap.size w w' := by
  have hf2 := hf
  unfold fairE at hf2
  rw [Bool.and_eq_true] at hf2
  obtain ⟨hg, hv⟩ := hf2
  obtain ⟨hv0, hv200⟩ := valid_few hv
  have hns := good_few hg
  have HG := Lib.hid (goodP_any na nc ns w hN hc (by omega))
  have HV := Lib.hid (validP_any a c xs ns.length w hX (by omega) (by unfold I64; omega))
  rw [hg] at HG
  rw [hv] at HV
  obtain ⟨b, o, rfl, _⟩ := hX.row hv0
  have ha : x.flat.all (fun t => argB t ns.length) = true := by
    rw [hx]
    unfold validE at hv
    simp only [Bool.and_eq_true, decide_eq_true_eq] at hv
    exact hv.2
  have hsz := text_sized hg x hw ha
  have hlen := sized_short hsz (n := 200) (by rw [hx]; omega)
  have hne : x.text ns ≠ [] := by
    obtain ⟨P, hP, _⟩ := hsz
    exact written_ne hP
  have HE : Hid (∀ W, Below w.heap.size w W → Calls Tryz.prog 28 #[.pointer (some ⟨W.heap.size, 0, none⟩), .int .i64 0] (W.alloc (.cells #[.pointer none, .slice none 0 0, .slice (some ⟨b, o, none⟩) xs.length c, .slice na ns.length nc] 57)) fun e w' => e = .returned (.tuple #[]) ∧ WIs ⟨W, b, o, xs, na, nc, ns⟩ w' (x.text ns) []) := Lib.hid (fun W hb => by
    have hU : (Wup.mk W b o xs na nc ns).Ok := ⟨hX.below hb, hN.below hb rfl, hL.words.below hb (Nat.le_refl _), hL.tab.below hb (Nat.le_refl _), hg, by show xs.length ≤ 1000; omega⟩
    have hE := (ex_all _ hU x hw ha).2
    have := hE 0 _ [] [] 0 rfl (by omega) (by rw [hx, List.append_nil]; exact wnew W b o c xs na nc ns hcap) (by rw [hx]; simp; omega)
    rw [List.nil_append, brk_no (by have := (lv_pos x.top.1).1; unfold Ex.lv; omega)] at this
    exact this)
  have HLn := Lib.hid (fun W W' (hW : WIs ⟨W, b, o, xs, na, nc, ns⟩ W' (x.text ns) []) => wlen_any ⟨W, b, o, xs, na, nc, ns⟩ W' (x.text ns) [] hW)
  have HSt := Lib.hid (fun W W' (hW : WIs ⟨W, b, o, xs, na, nc, ns⟩ W' (x.text ns) []) => wstring_any ⟨W, b, o, xs, na, nc, ns⟩ W' (x.text ns) [] hW hne)
  have HBl : Hid (∀ W W', WIs ⟨W, b, o, xs, na, nc, ns⟩ W' (x.text ns) [] → Below W.heap.size W W') := Lib.hid (fun W W' hW => by
    obtain ⟨p, h⟩ := hW.at_
    exact h.bel)
  have hlt : decide ((16384 : Int) < ((x.text ns).length : Int)) = false := by simp; omega
  have hlt2 : ¬ ((16384 : Int) < ((x.text ns).length : Int)) := by omega
  clear hX hN hc hf hg hv hx hw ha hsz hlen hcap hL hne
  dsimp only at HLn HSt
  generalize mkS (x.text ns) = z at *
  generalize (x.text ns).length = tl at *
  generalize x.text ns = T at *
  generalize hxs : xs.length = m at *
  generalize hnn : ns.length = nn at *
  go_enter Tryz.func15, Tryz.ntmps15
  go_wp2_with (first | (go_at_call 19; refine HG.out.mono ?_; rintro e w1 ⟨rfl, rfl⟩) | (go_at_call 22; refine HV.out.mono ?_; rintro e w2 ⟨rfl, hb2⟩) | (go_at_call 28; refine (HE.out _ hb2).mono ?_; rintro e w3 ⟨rfl, h3⟩) | (go_at_call 29; refine (HLn.out _ _ h3).mono ?_; rintro e w4 ⟨rfl, rfl⟩) | (go_at_call 30; refine (HSt.out _ _ h3).mono ?_; rintro e w5 ⟨rfl, hb5⟩))
  go_ret2
  exact ⟨rfl, (hb2.trans ((HBl.out _ _ h3).mono hb2.size)).trans (hb5.mono hb2.size)⟩
end Go.Proofs.YtokmehjofboflaaGreatDoor
namespace Go.Proofs.YtokmehjofboflaaGreatDoor
set_option maxRecDepth 100000
open Go.RowKit Go.ChangeShapes Go.WideShapes

section
variable {H : Type} {enc : TypeId × Value → H} {P : Program} {w : World} {base : Nat} {spare : Nat → Bool} {held : Bool}
theorem names_of {t e : TypeId} {fuel : Nat} {v : Value} {x : DataW H × List MemPlace} (ht : P.underlying t = some (.slice e)) (he : P.underlying e = some .string) (hc : P.cellsOf e = 1)
    (h : DataW.trod enc P w base spare held fuel t [v] = some x) : ∃ a l c ns, v = .slice a l c ∧ l = ns.length ∧ NamesAt w a ns ∧ l ≤ c := by
  rcases open_strings ht he hc h with ⟨hcs, _⟩ | ⟨a, len, cap, ss, hcs, _, hl, hm, hz, _, hcell, _⟩
  · exact ⟨none, 0, 0, [], by simpa using hcs, rfl, ⟨Nat.zero_le _, fun h0 => absurd h0 (by simp)⟩, Nat.le_refl _⟩
  · have hsl : len ≤ ss.length := by rw [hz]; split <;> omega
    have hlen : ((ss.take len).map fun s => s.data.toList).length = len := by simp; omega
    refine ⟨some a, len, cap, (ss.take len).map fun s => s.data.toList, by simpa using hcs, hlen.symm, ⟨by omega, fun h0 => ?_⟩, hl⟩
    rw [hlen] at h0
    have h1 := hcell 0 (by omega)
    have hs := World.cell?_spot h1
    obtain ⟨b, o, s⟩ := a
    simp only [Addr.add] at hs
    subst hs
    refine ⟨b, o, rfl, cell_lt h1, fun i hi => ?_⟩
    rw [hlen] at hi
    have h2 := hcell i (by omega)
    rw [add_none] at h2
    rw [h2]
    congr 2
    rw [List.getD_eq_getElem?_getD, List.getD_eq_getElem?_getD, List.getElem?_map, List.getElem?_take_of_lt hi, List.getElem?_eq_getElem (by omega : i < ss.length)]
    show ss[i] = mkS ss[i].data.toList
    rw [mkS_data]
end
section
open Go.ChangeAt Go.Deep Go.Joins
variable {H : Type} {enc : TypeId × Value → H} {P : Program} {w : World} {base : Nat} {spare : Nat → Bool} {held : Bool}
theorem links_cap6 {t e : TypeId} {fuel : Nat} {a : Option Addr} {l c : Nat} {x : DataW H × List MemPlace} (ht : P.underlying t = some (.slice e)) (h : DataW.trod enc P w base spare held fuel t [.slice a l c] = some x) : l ≤ c := by
  rcases open_slice ht h with ⟨hcs, _⟩ | ⟨a', len, cap, m, n, D, Pl, hcs, _, hl, _⟩
  · simp at hcs
    omega
  · simp at hcs
    omega
end
theorem wf_u8e {z : Int} (h : (Lit.int .u8 z).wf = true) : 0 ≤ z ∧ z ≤ 255 := by
  simpa [Lit.wf, IntKind.min, IntKind.max, IntKind.signed, IntKind.bits] using h
/-- what light answers -/
def lightN (ns : List Bytes) : Bool := decide (ns.length ≤ 10) && ns.all fun l => decide (l.length ≤ 40)
set_option maxHeartbeats 1000000 in
theorem lightN_any (a : Option Addr) (c : Nat) (ns : List Bytes) (w : World) (hN : NamesAt w a ns) :
    Calls Tryz.prog 9 #[.slice a ns.length c] w fun e w' => e = .returned (.bool (lightN ns)) ∧ w' = w := by
  have HX := Lib.hid hN
  obtain ⟨z, hz⟩ : ∃ z, z = lightN ns := ⟨_, rfl⟩
  have HZ := Lib.hid hz
  have HBad : Hid (∀ k, k < ns.length → 40 < (ns.getD k []).length → z = false) := Lib.hid (fun k hk h => by
    rw [hz, Bool.eq_false_iff]
    intro ht
    unfold lightN at ht
    rw [Bool.and_eq_true, List.all_eq_true] at ht
    have := ht.2 (ns.getD k []) (by rw [List.getD_eq_getElem?_getD, List.getElem?_eq_getElem hk]; exact List.getElem_mem hk)
    simp at this
    simp at h
    omega)
  have HOk : Hid (ns.length ≤ 10 → (∀ j, j < ns.length → (ns.getD j []).length ≤ 40) → z = true) := Lib.hid (fun h h2 => by
    rw [hz]
    unfold lightN
    rw [Bool.and_eq_true, List.all_eq_true, decide_eq_true_eq]
    refine ⟨h, fun l hl => ?_⟩
    obtain ⟨i, hi, rfl⟩ := List.mem_iff_getElem.1 hl
    have := h2 i hi
    rw [List.getD_eq_getElem?_getD, List.getElem?_eq_getElem hi] at this
    simpa using this)
  have HLong : Hid (10 < ns.length → z = false) := Lib.hid (fun h => by
    rw [hz]
    unfold lightN
    rw [decide_eq_false (by omega)]
    rfl)
  obtain ⟨m, hm⟩ : ∃ m, m = ns.length := ⟨_, rfl⟩
  have HM := Lib.hid hm
  rw [← hz, ← hm]
  rw [← hm] at HBad HOk HLong
  clear hz hm hN HZ
  by_cases h10 : 10 < m
  · have hz := HLong.out h10
    subst hz
    go_enter Tryz.func9, Tryz.ntmps9
    go_wp2
    go_ret
    exact ⟨rfl, rfl⟩
  go_enter Tryz.func9, Tryz.ntmps9
  go_wp2
  go_loop [3] (fun t => ∃ k : Nat, t = .int .i64 k ∧ k ≤ m ∧ (∀ j, j < k → (ns.getD j []).length ≤ 40)) (fun t => m - (intOf t).toNat)
  case atStart => exact ⟨0, rfl, Nat.zero_le _, (fun j h => by omega)⟩
  case round =>
    obtain ⟨k, rfl, hk, hlow⟩ := hrel
    have HL := Lib.hid hlow
    clear hlow
    by_cases hlt : k < m
    · obtain ⟨b, o, rfl, hb, hc⟩ := HX.out.row (by rw [← HM.out]; omega)
      have hcell := hc k (by rw [← HM.out]; exact hlt)
      have HSz := Lib.hid (mkS_size (ns.getD k []))
      have hbad := HBad.out k hlt
      have HStep : Hid ((ns.getD k []).length ≤ 40 → ∀ j, j < k + 1 → (ns.getD j []).length ≤ 40) := Lib.hid (fun h j hj => by
        rcases Nat.lt_or_ge j k with h1 | h1
        · exact HL.out j h1
        · obtain rfl : j = k := by omega
          exact h)
      clear hc
      generalize mkS (ns.getD k []) = s at *
      generalize (ns.getD k []).length = q at *
      have hsz := HSz.out
      by_cases h40 : 40 < q
      · have hz := hbad h40
        subst hz
        have d : (40 : Int) < (s.size : Int) := by omega
        clear hbad hsz
        go_wp2
        go_ret
        exact ⟨rfl, rfl⟩
      · have d : decide ((40 : Int) < (s.size : Int)) = false := by simp; omega
        clear hbad hsz
        go_wp2
        go_round
        case rel => exact ⟨k + 1, by go_num, by omega, HStep.out (by omega)⟩
        case measure => simp [intOf]; omega
    · have hz : z = true := HOk.out (by omega) (fun j hj => HL.out j (by omega))
      subst hz
      go_wp2
      go_ret
      exact ⟨rfl, rfl⟩
end Go.Proofs.YtokmehjofboflaaGreatDoor
namespace Go.Proofs.YtokmehjofboflaaGreatDoor
set_option maxRecDepth 100000
open Go.RowKit

def exT : Bytes := [109, 105, 110, 40, 113, 46, 100, 41, 43, 49]
def exN : List Bytes := [[100], [112]]
def exL : List (Int × Int) := [(33, 0), (24, 0), (12, 0), (1, 1)]
def exX : Ex := .bi (33, 0) (.un (24, 0) (.leaf (12, 0))) (.leaf (1, 1))
theorem ok_cons {w : Bytes} {t : Tk} {P : Pcs} {nx : Option UInt8} (h : tokF w = .inr t) (hl : t.len = w.length) (hj : ∀ b, headP P nx = some b → joint w b = true) (hP : okP P nx) : okP ((w, []) :: P) nx :=
  ⟨⟨⟨t, h, hl⟩, closed_nil, .inl rfl, fun _ => hj⟩, hP⟩
theorem ex_ok : okP [([109, 105, 110], []), ([40], []), ([113], []), ([46], []), ([100], []), ([41], []), ([43], []), ([49], [])] none := by
  refine ok_cons (t := ⟨1, 3, 0⟩) (by decide) rfl (fun b hb => ?_) (ok_cons (t := ⟨3, 1, 0⟩) (by decide) rfl (fun b hb => ?_) (ok_cons (t := ⟨1, 1, 0⟩) (by decide) rfl (fun b hb => ?_) (ok_cons (t := ⟨3, 1, 0⟩) (by decide) rfl (fun b hb => ?_) (ok_cons (t := ⟨1, 1, 0⟩) (by decide) rfl (fun b hb => ?_) (ok_cons (t := ⟨3, 1, 0⟩) (by decide) rfl (fun b hb => ?_) (ok_cons (t := ⟨3, 1, 0⟩) (by decide) rfl (fun b hb => ?_) (ok_cons (t := ⟨2, 1, 1⟩) (by decide) rfl (fun b hb => ?_) trivial)))))))
  all_goals first
    | (cases hb; done)
    | (injection hb with hb
       subst hb
       decide)
theorem ex_spell : Spell exN 1 ([([109, 105, 110], []), ([40], []), ([113], []), ([46], []), ([100], []), ([41], []), ([43], []), ([49], [])].map (Prod.fst (β := Bytes))) exL := by
  have h1 : Spell exN 8 [[113], [46], [100]] [(12, ((0 : Nat) : Int))] := .near (by decide) (by decide) (by decide)
  have h2 := Spell.agg (w := [109, 105, 110]) (by decide) (by decide) (by decide) (h1.lift (lv := 1) (by omega) (by omega) (by omega))
  have h3 : Spell exN 8 [[49]] [(1, ((numW [49] : Nat) : Int))] := .num (by decide)
  have h4 := Spell.bin (lv := 5) (w := [43]) (by omega) (by omega) (by omega) (by decide) (h2.lift (lv := 5) (by omega) (by omega) (by omega)) (h3.lift (lv := 6) (by omega) (by omega) (by omega))
  exact h4.lift (by omega) (by omega) (by omega)
theorem ex_parse : parseF exT exN = (exL, 0, 0) := parse_text (P := [([109, 105, 110], []), ([40], []), ([113], []), ([46], []), ([100], []), ([41], []), ([43], []), ([49], [])]) (by decide) ex_ok (by decide) (by decide) ex_spell (by decide +kernel)
theorem ex_fair : fairE exL exN = true := by decide +kernel
theorem ex_text : exX.text exN = [109, 105, 110, 40, 113, 46, 100, 41, 32, 43, 32, 49] := by
  have h : decB 1 = [49] := dec_small (by omega)
  have e : exX.text exN = [109, 105, 110, 40, 113, 46, 100, 41, 32, 43, 32] ++ decB 1 := rfl
  rw [e, h]
  rfl
theorem ex_wf : exX.wf := ⟨by decide, ⟨by decide, by show arF 12 = 0; decide⟩, by show arF 1 = 0; decide⟩
theorem names_lit (w : World) (t : TypeId) (ns : List Bytes) (C : Array Value) (h : C.toList = ns.map fun l => Value.string (mkS l)) (hn : ns.length ≤ 10) : NamesAt (w.alloc (.cells C t)) (some ⟨w.heap.size, 0, none⟩) ns := by
  refine ⟨by unfold maxLen; omega, fun _ => ⟨w.heap.size, 0, rfl, by simp, fun i hi => ?_⟩⟩
  rw [Nat.zero_add, World.cell?_alloc_new, ← Array.getElem?_toList, h, List.getElem?_map, List.getElem?_eq_getElem hi, List.getD_eq_getElem?_getD, List.getElem?_eq_getElem hi]
  rfl
theorem ex_i64 : ∀ x ∈ exL, I64 x.1 ∧ I64 x.2 := by
  intro x hx
  unfold I64
  simp [exL] at hx
  rcases hx with rfl | rfl | rfl | rfl <;> decide
theorem own_some {B n c : Nat} {w : World} {a : Option Addr} {xs : List (Int × Int)} (h : OwnT B w (.slice a n c) xs) (h0 : 0 < xs.length) : ∃ g, a = some ⟨g, 0, none⟩ ∧ B ≤ g ∧ g < w.heap.size := by
  obtain ⟨a', c', e, _, hg⟩ := h.shape
  injection e with e1 _ _
  subst e1
  exact hg h0
theorem own_cap {B n c : Nat} {w : World} {a : Option Addr} {xs : List (Int × Int)} (h : OwnT B w (.slice a n c) xs) : n ≤ c := by
  rcases h.2 with ⟨e, _⟩ | ⟨g, cap, cur, e, _, _, h1, h2, _⟩
  · injection e with _ e1 e2
    omega
  · injection e with _ e1 e2
    omega
set_option maxHeartbeats 2000000 in
theorem awake6_any (w : World) (hL6 : Lay6 w) : Calls Tryz.prog 10 #[] w fun e w' => e = .returned (.bool true) ∧ Below w.heap.size w w' := by
  have HP : Hid (∀ (a : Option Addr) (W : World), NamesAt W a exN → Below w.heap.size w W → Calls Tryz.prog 11 #[.string ⟨#[109, 105, 110, 40, 113, 46, 100, 41, 43, 49]⟩, .slice a 2 2] W fun e w' => (∃ g c, e = .returned (.tuple #[.slice (some ⟨g, 0, none⟩) 4 c, .int .i64 0, .int .i64 0]) ∧ OwnT W.heap.size w' (.slice (some ⟨g, 0, none⟩) 4 c) exL ∧ g < w'.heap.size ∧ 4 ≤ c) ∧ Below W.heap.size W w') := Lib.hid (fun a W hN hBW => by
    have h := parseP_any exT a 2 exN W hN (by decide) (by decide) (fits_short (by decide) _) (hL6.below hBW (Nat.le_refl _)).words
    rw [ex_parse] at h
    refine h.mono ?_
    rintro e w' ⟨⟨a', c', rfl, O⟩, hb⟩
    obtain ⟨g, rfl, _, hg⟩ := own_some O (by decide)
    exact ⟨⟨g, c', rfl, O, hg, own_cap O⟩, hb⟩)
  have HF : Hid (∀ (a b : Option Addr) (c : Nat) (W : World), LinksAt W a exL → NamesAt W b exN → 4 ≤ c → Below w.heap.size w W → Calls Tryz.prog 15 #[.slice a 4 c, .slice b 2 2] W fun e w' => e = .returned (.tuple #[.string ⟨#[109, 105, 110, 40, 113, 46, 100, 41, 32, 43, 32, 49]⟩, .int .i64 0]) ∧ Below W.heap.size W w') := Lib.hid (fun a b c W hX hN hcap hBW => by
    have h := formatP_ok a c exL b 2 exN W hX hN (by decide) ex_fair exX rfl ex_wf hcap (hL6.below hBW (Nat.le_refl _))
    rw [ex_text] at h
    exact h)
  go_enter Tryz.func10, Tryz.ntmps10
  go_wp2_with (first
    | (go_at_call 11; refine (HP.out _ _ (names_lit _ _ exN _ rfl (by decide)) (below_alloc6 _ _)).mono ?_; rintro e w1 ⟨⟨g, c, rfl, O, hg, hcap⟩, hb1⟩; have hB1 := (below_alloc6 _ _).trans (hb1.mono (below_alloc6 _ _).size))
    | (go_at_call 15; refine (HF.out _ _ _ _ ((O.links ex_i64).below (below_alloc6 _ _)) (names_lit _ _ exN _ rfl (by decide)) hcap (hB1.trans ((below_alloc6 _ _).mono hB1.size))).mono ?_; rintro e w2 ⟨rfl, hb2⟩; have hB2 := hB1.trans (((below_alloc6 _ _).trans (hb2.mono (below_alloc6 _ _).size)).mono hB1.size); have c0 : w2.cell? ⟨g, 0, none⟩ = some (.int .i64 33) := (((below_alloc6 _ _).trans (hb2.mono (below_alloc6 _ _).size)).cell (p := ⟨g, 0, none⟩) hg).trans (O.cells (i := 0) (by decide)).1))
  go_ret
  exact ⟨rfl, hB2⟩
end Go.Proofs.YtokmehjofboflaaGreatDoor
