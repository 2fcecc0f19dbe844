/- alone and brackets of the program's writer. -/
import Derived.Test.YtdbahiepihkagaaGreatDoorExprFormat3
import Derived.Test.YtdbahiepihkagaaGreatDoorExprPlace
import Derived.Shelf.Strings.Builder1
import Derived.Lib.ItoaMem
import Derived.Test.YtdbahiepihkagaaGreatDoorShelf
import Derived.Test.YtdbahiepihkagaaGreatDoorTermP1
import Derived.Lib.AppendIntMem
import Derived.Deep.RegionWith
namespace Go.Proofs.YtdbahiepihkagaaGreatDoor
set_option maxRecDepth 100000
open Go.RowKit

theorem sized_short {ns : List Bytes} {lv : Nat} {T : Bytes} {e : List (Int × Int)} (h : Sized ns lv T e) {n : Nat} (hn : e.length ≤ n) : T.length ≤ 28 * n := by
  obtain ⟨_, _, _, h⟩ := h
  omega
theorem brk_short (k l : Nat) (T : Bytes) : (brk k l T).length ≤ T.length + 2 := by
  unfold brk
  split
  · rw [prn_len]
    omega
  · omega
theorem text_any (S : Src) (hS : S.Ok) : ∀ (x : Ex) (p : Nat), Sits S.xs p x → x.wf → x.flat.all (fun t => argB t S.ns.length) = true → S.Text p (x.text S.ns)
  | .leaf t, p, hs, hw, ha => leaf_any S hS p t hs hw (all_cons ha).1
  | .un t a, p, hs, hw, ha => by
    have hr := ar_un hw.1
    obtain ⟨_, a2⟩ := all_cons ha
    have ih := text_any S hS a (p + 1) hs.un hw.2 a2
    have hl := sized_short (text_sized hS.good a hw.2 a2) (n := 1000) (by have := hs.un.le; have := hS.few; omega)
    have hb := brk_short 7 a.lv (a.text S.ns)
    unfold Ex.text
    by_cases hn : t.1 = 18 ∨ t.1 = 19
    · rw [if_pos hn]
      exact neg_any S hS p t a hs hn _ (brk_any S hS (p + 1) 7 a hs.un _ ih (by omega)) (by omega)
    · rw [if_neg hn]
      exact aggt_any S hS p t a hs (by omega) _ ih (by omega)
  | .bi t a b, p, hs, hw, ha => by
    obtain ⟨_, a2⟩ := all_cons ha
    obtain ⟨a3, a4⟩ := all_app a2
    have iha := text_any S hS a _ hs.bi1 hw.2.1 a3
    have ihb := text_any S hS b _ hs.bi2 hw.2.2 a4
    have hla := sized_short (text_sized hS.good a hw.2.1 a3) (n := 1000) (by have := hs.bi1.le; have := hS.few; omega)
    have hlb := sized_short (text_sized hS.good b hw.2.2 a4) (n := 1000) (by have := hs.bi2.le; have := hS.few; omega)
    have sa := fun k => brk_short k a.lv (a.text S.ns)
    have sb := fun k => brk_short k b.lv (b.text S.ns)
    have ba := fun k => brk_any S hS _ k a hs.bi1 _ iha (by omega)
    have bb := fun k => brk_any S hS _ k b hs.bi2 _ ihb (by omega)
    unfold Ex.text
    by_cases h4 : lvF t.1 = 4
    · rw [if_pos h4]
      exact bi_any S hS p t a b hs hw 5 5 (by rw [if_pos h4]) (by rw [if_pos h4]) _ _ (ba 5) (bb 5) (by have := sa 5; omega) (by have := sb 5; omega)
    · rw [if_neg h4]
      exact bi_any S hS p t a b hs hw (lvF t.1) (lvF t.1 + 1) (by rw [if_neg h4]) (by rw [if_neg h4]) _ _ (ba _) (bb _) (by have := sa (lvF t.1); omega) (by have := sb (lvF t.1 + 1); omega)
  | .cond t c a b, p, hs, hw, ha => by
    obtain ⟨_, a2⟩ := all_cons ha
    obtain ⟨a3, a4⟩ := all_app a2
    obtain ⟨a5, a6⟩ := all_app a4
    have ihc := text_any S hS c _ hs.c1 hw.2.1 a3
    have iha := text_any S hS a _ hs.c2 hw.2.2.1 a5
    have ihb := text_any S hS b _ hs.c3 hw.2.2.2 a6
    have hlc := sized_short (text_sized hS.good c hw.2.1 a3) (n := 1000) (by have := hs.c1.le; have := hS.few; omega)
    have hla := sized_short (text_sized hS.good a hw.2.2.1 a5) (n := 1000) (by have := hs.c2.le; have := hS.few; omega)
    have hlb := sized_short (text_sized hS.good b hw.2.2.2 a6) (n := 1000) (by have := hs.c3.le; have := hS.few; omega)
    have sc := brk_short 2 c.lv (c.text S.ns)
    unfold Ex.text
    exact cond_any S hS p t c a b hs hw _ _ _ (brk_any S hS _ 2 c hs.c1 _ ihc (by omega)) iha ihb (by omega) (by omega) (by omega)
/-- what Format answers -/
def fairE (xs : List (Int × Int)) (ns : List Bytes) : Bool := goodF ns && validE xs ns.length
theorem fair_tree {xs : List (Int × Int)} {ns : List Bytes} (h : fairE xs ns = true) : ∃ x : Ex, x.flat = xs ∧ x.wf ∧ x.flat.all (fun t => argB t ns.length) = true := by
  unfold fairE at h
  rw [Bool.and_eq_true] at h
  have hv := h.2
  unfold validE at hv
  simp only [Bool.and_eq_true, decide_eq_true_eq] at hv
  obtain ⟨x, hx, hw⟩ := one_tree hv.1.1.1.2
  exact ⟨x, hx, hw, by rw [hx]; exact hv.2⟩
theorem valid_few {xs : List (Int × Int)} {v : Int} (h : validE xs v = true) : 0 < xs.length ∧ xs.length ≤ 200 := by
  unfold validE at h
  simp only [Bool.and_eq_true, decide_eq_true_eq] at h
  have h1 := oneB_iff.1 h.1.1.1.2
  have := eat_le h1
  omega
set_option maxHeartbeats 2000000 in
theorem formatR_bad (a : Option Addr) (c : Nat) (xs : List (Int × Int)) (na : Option Addr) (nc : Nat) (ns : List Bytes) (w : World) (hX : LinksAt w a xs) (hN : NamesAt w na ns) (hc : ns.length ≤ nc) (hn : ns.length ≤ 1000000) (hx : xs.length ≤ 1000) (hf : fairE xs ns = false) :
    Calls Tryz.prog 21 #[.slice a xs.length c, .slice na ns.length nc] w fun e w' => e = .returned (.tuple #[.string (mkS []), .int .i64 7]) ∧ Below w.heap.size w w' := by
  have HG := Lib.hid (goodR_any na nc ns w hN hc hn)
  have HV := Lib.hid (fun W (h : Below w.heap.size w W) => validR_any a c xs ns.length W (hX.below h) hx)
  unfold fairE at hf
  clear hX hN hc hn hx
  generalize xs.length = m at *
  generalize validE xs ns.length = v at *
  generalize ns.length = nn at *
  cases hg : goodF ns with
  | false =>
    rw [hg] at HG
    clear HV hf hg
    go_enter Tryz.func21, Tryz.ntmps21
    go_wp2_with (go_at_call 37; refine HG.out.mono ?_; rintro e w1 ⟨rfl, hb⟩)
    go_ret2
    exact ⟨rfl, hb⟩
  | true =>
    rw [hg] at HG
    rw [hg, Bool.true_and] at hf
    subst hf
    clear hg
    go_enter Tryz.func21, Tryz.ntmps21
    go_wp2_with (first | (go_at_call 37; refine HG.out.mono ?_; rintro e w1 ⟨rfl, hb⟩) | (go_at_call 40; refine (HV.out _ hb).mono ?_; rintro e w2 ⟨rfl, hb2⟩))
    go_ret2
    exact ⟨rfl, hb.trans (hb2.mono hb.size)⟩
set_option maxHeartbeats 2000000 in
theorem formatR_ok (a : Option Addr) (c : Nat) (xs : List (Int × Int)) (na : Option Addr) (nc : Nat) (ns : List Bytes) (w : World) (hX : LinksAt w a xs) (hN : NamesAt w na ns) (hc : ns.length ≤ nc) (hf : fairE xs ns = true) (x : Ex) (hx : x.flat = xs) (hw : x.wf) :
    Calls Tryz.prog 21 #[.slice a xs.length c, .slice na ns.length nc] w fun e w' => e = .returned (.tuple #[.string (mkS (x.text ns)), .int .i64 0]) ∧ Below w.heap.size w w' := by
  have hf2 := hf
  unfold fairE at hf2
  rw [Bool.and_eq_true] at hf2
  obtain ⟨hg, hv⟩ := hf2
  obtain ⟨hv0, hv200⟩ := valid_few hv
  have hns := good_few hg
  have HG := Lib.hid (goodR_any na nc ns w hN hc (by omega))
  have HV := Lib.hid (fun W (h : Below w.heap.size w W) => validR_any a c xs ns.length W (hX.below h) (by omega))
  rw [hg] at HG
  rw [hv] at HV
  obtain ⟨b, o, rfl, _⟩ := hX.row hv0
  have ha : x.flat.all (fun t => argB t ns.length) = true := by
    rw [hx]
    unfold validE at hv
    simp only [Bool.and_eq_true, decide_eq_true_eq] at hv
    exact hv.2
  have hT := text_any (Src.mk w b o c xs na nc ns) ⟨hX, hN, hg, by show xs.length ≤ 1000; omega⟩ x 0 ⟨[], by rw [hx]; simp⟩ hw ha
  unfold Src.Text at hT
  dsimp only at hT
  have HT := Lib.hid hT
  have hlen : (x.text ns).length ≤ 5600 := by
    have := sized_short (text_sized hg x hw ha) (n := 200) (by rw [hx]; omega)
    omega
  have hsz : (mkS (x.text ns)).size = (x.text ns).length := mkS_size _
  have hlt : decide ((16384 : Int) < ((mkS (x.text ns)).size : Int)) = false := by rw [hsz]; simp; omega
  clear hX hN hc hf hg hv hx hw ha hT hsz hlen
  generalize xs.length = m at *
  generalize mkS (x.text ns) = z at *
  generalize ns.length = nn at *
  go_enter Tryz.func21, Tryz.ntmps21
  go_wp2_with (first | (go_at_call 37; refine HG.out.mono ?_; rintro e w1 ⟨rfl, hb⟩) | (go_at_call 40; refine (HV.out _ hb).mono ?_; rintro e w2 ⟨rfl, hb2⟩; have hB2 := hb.trans (hb2.mono hb.size)) | (go_at_call 44; refine (HT.out _ hB2).mono ?_; rintro e w3 ⟨rfl, hb3⟩; have hB3 := hB2.trans (hb3.mono hB2.size)))
  go_ret2
  exact ⟨rfl, hB3⟩
end Go.Proofs.YtdbahiepihkagaaGreatDoor
namespace Go.Proofs.YtdbahiepihkagaaGreatDoor
set_option maxRecDepth 100000
open Go.RowKit

abbrev TB : TypeId := 70
abbrev TU : TypeId := 5
abbrev TW : TypeId := 72
theorem infoB : (Tryz.prog.info? TB).map (·.size) = some 2 := by kernel_rfl
theorem infoPB : (Tryz.prog.info? TU).map (fun i => (i.zero, i.size, i.bytes)) = some (some (.int .u8 0), 1, 1) := by kernel_rfl
theorem liesW : liesAt Tryz.prog Tryz.prog.depth TW (4 / Tryz.prog.cellsOf TW) 0 TB 1 = true := by kernel_rfl
/-- the library's table of powers of ten -/
def Tb (w : World) : Prop := Lib.TabIs Tryz.prog w "internal/strconv.uint64pow10" .u64 Lib.pow10Tab
theorem tab_kept {w w' : World} {B g : Nat} {n : String} {k : IntKind} {zs : List Int} (hg : Tryz.prog.globalNamed n = some g) (h : Lib.TabIs Tryz.prog w n k zs) (hb : Below B w w') (hB : g < B) : Lib.TabIs Tryz.prog w' n k zs := by
  unfold Lib.TabIs World.var? at h ⊢
  rw [hg] at h ⊢
  simp only [Option.bind_some] at h ⊢
  rw [hb.block g hB]
  exact h
theorem Tb.lt {w : World} (h : Tb w) : 1 < w.heap.size := by
  unfold Tb Lib.TabIs World.var? at h
  rw [show Tryz.prog.globalNamed "internal/strconv.uint64pow10" = some 1 by kernel_rfl] at h
  simp only [Option.bind_some] at h
  rcases Nat.lt_or_ge 1 w.heap.size with h' | h'
  · exact h'
  · rw [Array.getElem?_eq_none h'] at h
    cases h
theorem Tb.below {w w' : World} {B : Nat} (h : Tb w) (hb : Below B w w') (hB : w.heap.size ≤ B) : Tb w' :=
  tab_kept (show Tryz.prog.globalNamed "internal/strconv.uint64pow10" = some 1 by kernel_rfl) h hb (Nat.lt_of_lt_of_le h.lt hB)
structure Wup where
  W0 : World
  xb : Nat
  xo : Nat
  xs : List (Int × Int)
  na : Option Addr
  nc : Nat
  ns : List Bytes
structure Wup.Ok (U : Wup) : Prop where
  links : LinksAt U.W0 (some ⟨U.xb, U.xo, none⟩) U.xs
  names : NamesAt U.W0 U.na U.ns
  words : Wd U.W0
  tab : Tb U.W0
  good : goodF U.ns = true
  few : U.xs.length ≤ 1000
/-- the writer's struct: what is written, what is still to be written -/
structure WAt (U : Wup) (w : World) (l : Bytes) (ys : List (Int × Int)) (p : Value) : Prop where
  bel : Below U.W0.heap.size U.W0 w
  blk : ∃ v a c, w.heap[U.W0.heap.size]? = some (.cells #[p, v, .slice a ys.length c, .slice U.na U.ns.length U.nc] TW (0, 0)) ∧ w.ownsRow (U.W0.heap.size + 1) TU 1 v l.length (Lib.byteCells l) ∧ ys.length ≤ c ∧
    ∃ k, k + ys.length = U.xs.length ∧ ys = U.xs.drop k ∧ (0 < ys.length → a = some ⟨U.xb, U.xo + k * 2, none⟩)
def WIs (U : Wup) (w : World) (l : Bytes) (ys : List (Int × Int)) : Prop := WAt U w l ys (.pointer none) ∨ WAt U w l ys (.pointer (some ⟨U.W0.heap.size, 0, none⟩))
theorem WIs.at_ {U : Wup} {w : World} {l : Bytes} {ys : List (Int × Int)} (h : WIs U w l ys) : ∃ p, WAt U w l ys p := by
  rcases h with h | h
  · exact ⟨_, h⟩
  · exact ⟨_, h⟩
theorem WIs.map {U : Wup} {w w' : World} {l l' : Bytes} {ys ys' : List (Int × Int)} (h : WIs U w l ys) (f : ∀ p, WAt U w l ys p → WAt U w' l' ys' p) : WIs U w' l' ys' := h.imp (f _) (f _)
theorem cell_one_new6 (w : World) (v : Value) (e : TypeId) : ∀ j u, ([v] : List Value)[j]? = some u → (w.alloc (.cells #[v] e)).cell? ((⟨w.heap.size, 0, none⟩ : Addr).add j) = some u := by
  intro j u hj
  cases j with
  | zero =>
    injection hj with hj
    subst hj
    exact World.cell?_alloc_new w _ _ 0
  | succ j => simp at hj
theorem heap_here {w : World} {b : Nat} {o : Obj} (h : w.heap[b]? = some o) : b < w.heap.size := by
  rcases Nat.lt_or_ge b w.heap.size with h' | h'
  · exact h'
  · simp [Array.getElem?_eq_none h'] at h
theorem WAt.lt {U : Wup} {w : World} {l : Bytes} {ys : List (Int × Int)} {p : Value} (h : WAt U w l ys p) : U.W0.heap.size < w.heap.size := by
  obtain ⟨v, a, c, hb, _⟩ := h.blk
  exact heap_here hb
theorem own_high {w : World} {B : Nat} {e : TypeId} {n : Nat} {v : Value} {xs : List Value} (h : w.ownsRow B e 1 v n xs) {k : Nat} (hk : k < B) : some k ≠ v.ownBlock := fun e => by
  have := (World.ownsRow.lt h k e.symm).1
  omega
theorem WAt.far {U : Wup} {w w' : World} {l : Bytes} {ys : List (Int × Int)} {p : Value} (h : WAt U w l ys p) (hb : Below w.heap.size w w') : WAt U w' l ys p := by
  have hl := h.lt
  obtain ⟨v, a, c, e, ho, hr⟩ := h.blk
  exact ⟨h.bel.trans (hb.mono (Nat.le_of_lt hl)), v, a, c, (hb.block _ hl).trans e, ho.kept (row := none) ⟨hb.os, hb.tape, hb.output, hb.size, fun k hk _ => hb.block k hk⟩ (by cases v.ownBlock <;> simp), hr⟩
theorem WIs.far {U : Wup} {w w' : World} {l : Bytes} {ys : List (Int × Int)} (h : WIs U w l ys) (hb : Below w.heap.size w w') : WIs U w' l ys := h.map fun _ k => k.far hb
theorem block_set {w : World} {b i : Nat} {cs : Array Value} {t : TypeId} (h : w.heap[b]? = some (.cells cs t (0, 0))) (v : Value) : (w.setCell ⟨b, i, none⟩ v).heap[b]? = some (.cells (cs.setIfInBounds i v) t (0, 0)) := by
  simp [World.setCell, Array.getElem?_modify, h]
theorem own_setBlock {w : World} {B b i : Nat} {e : TypeId} {n : Nat} {v : Value} {xs : List Value} (h : w.ownsRow B e 1 v n xs) (hb : b < B) (u : Value) : (w.setCell ⟨b, i, none⟩ u).ownsRow B e 1 v n xs :=
  ownsRow_setCell_below h (a := ⟨b, i, none⟩) hb u
theorem WAt.used {U : Wup} {w : World} {l : Bytes} {ys : List (Int × Int)} {p : Value} (h : WAt U w l ys p) (q : Value) : WAt U (w.setCell ⟨U.W0.heap.size, 0, none⟩ q) l ys q := by
  obtain ⟨v, a, c, e, ho, hr⟩ := h.blk
  exact ⟨h.bel.setCell (p := ⟨U.W0.heap.size, 0, none⟩) (Nat.le_refl _) _, v, a, c, block_set e q, own_setBlock ho (Nat.lt_succ_self _) _, hr⟩
set_option maxHeartbeats 1000000 in
theorem checkW_used (U : Wup) (w : World) (l : Bytes) (ys : List (Int × Int)) (h : WAt U w l ys (.pointer (some ⟨U.W0.heap.size, 0, none⟩))) :
    Calls Tryz.prog 146 #[.pointer (some ⟨U.W0.heap.size, 0, none⟩)] w fun e w' => e = .returned (.tuple #[]) ∧ w' = w := by
  obtain ⟨v, a, c, e, _⟩ := h.blk
  have h0 : w.cell? ⟨U.W0.heap.size, 0, none⟩ = some (.pointer (some ⟨U.W0.heap.size, 0, none⟩)) := by rw [Lib.cell_of_heap e]; rfl
  obtain ⟨j, hj, _⟩ := Option.map_eq_some_iff.1 infoB
  clear h e
  generalize U.W0.heap.size = b at *
  go_enter Tryz.func146, Tryz.ntmps146
  go_wp2
  rw [Lib.run_neq_ptr_same w _ Tryz.underlying68 hj]
  go_wp2
  go_end0
  exact ⟨rfl, rfl⟩
set_option maxHeartbeats 1000000 in
theorem checkW_fresh (U : Wup) (w : World) (l : Bytes) (ys : List (Int × Int)) (h : WAt U w l ys (.pointer none)) :
    Calls Tryz.prog 146 #[.pointer (some ⟨U.W0.heap.size, 0, none⟩)] w fun e w' => e = .returned (.tuple #[]) ∧ w' = w.setCell ⟨U.W0.heap.size, 0, none⟩ (.pointer (some ⟨U.W0.heap.size, 0, none⟩)) := by
  obtain ⟨v, a, c, e, _⟩ := h.blk
  have h0 : w.cell? ⟨U.W0.heap.size, 0, none⟩ = some (.pointer none) := by rw [Lib.cell_of_heap e]; rfl
  have hsh : w.shape? U.W0.heap.size = some (TW, 4) := by simp [World.shape?, e]
  have hfz : w.frozen? ⟨U.W0.heap.size, 0, none⟩ = false := Lib.frozen_of_heap e 0
  obtain ⟨j, hj, hjs⟩ := Option.map_eq_some_iff.1 infoB
  clear h e
  generalize U.W0.heap.size = b at *
  go_enter Tryz.func146, Tryz.ntmps146
  go_wp2
  rw [Lib.run_to_unsafe w ⟨b, 0, none⟩ Tryz.underlying68 Tryz.underlying171 hj (by rw [hjs]; decide) hsh (Nat.zero_lt_succ 3)]
  simp only [Result.andThen]
  rw [Oper.upon_value]
  go_wp2
  rw [run_callFunc_extern Tryz.func177 (by kernel_rfl) (by kernel_rfl) (by kernel_rfl) (e := Extern.AbiNoEscape.same) (by kernel_rfl)]
  rw [Lib.run_noEscape]
  simp only [Result.andThen]
  rw [Oper.upon_value]
  go_wp2
  rw [Lib.run_from_unsafe w ⟨b, 0, none⟩ Tryz.underlying171 Tryz.underlying68 hj hsh liesW]
  simp only [Result.andThen]
  rw [Oper.upon_value]
  go_wp2
  go_end0
  exact ⟨rfl, rfl⟩
theorem checkW_any (U : Wup) (w : World) (l : Bytes) (ys : List (Int × Int)) (h : WIs U w l ys) :
    Calls Tryz.prog 146 #[.pointer (some ⟨U.W0.heap.size, 0, none⟩)] w fun e w' => e = .returned (.tuple #[]) ∧ WAt U w' l ys (.pointer (some ⟨U.W0.heap.size, 0, none⟩)) := by
  rcases h with h | h
  · refine (checkW_fresh U w l ys h).mono ?_
    rintro e w' ⟨rfl, rfl⟩
    exact ⟨rfl, h.used _⟩
  · refine (checkW_used U w l ys h).mono ?_
    rintro e w' ⟨rfl, rfl⟩
    exact ⟨rfl, h⟩
theorem WAt.put1 {U : Wup} {w w1 w2 : World} {l l' : Bytes} {ys : List (Int × Int)} {p v v' : Value} (h : WAt U w1 l ys p) (hb : Below w1.heap.size w1 w) {a : Option Addr} {c : Nat} (hbk : w1.heap[U.W0.heap.size]? = some (.cells #[p, v, .slice a ys.length c, .slice U.na U.ns.length U.nc] TW (0, 0))) (hown : w1.ownsRow (U.W0.heap.size + 1) TU 1 v l.length (Lib.byteCells l))
    (hg : w.grownBy w2 v.ownBlock) (h2 : w2.ownsRow (U.W0.heap.size + 1) TU 1 v' l'.length (Lib.byteCells l')) : WAt U (w2.setCell ⟨U.W0.heap.size, 1, none⟩ v') l' ys p := by
  have hl := h.lt
  obtain ⟨v0, a0, c0, e0, o0, r0⟩ := h.blk
  rw [hbk] at e0
  injection e0 with e0
  injection e0 with e0
  have e0' := congrArg Array.toList e0
  injection e0' with _ e0'
  injection e0' with ev e0'
  injection e0' with es _
  injection es with ea _ ec
  subst ev ea ec
  have hbk2 : w2.heap[U.W0.heap.size]? = some (.cells #[p, v, .slice a ys.length c, .slice U.na U.ns.length U.nc] TW (0, 0)) := by
    rw [hg.block _ (Nat.lt_of_lt_of_le hl hb.size) (own_high hown (Nat.lt_succ_self _)), hb.block _ hl]
    exact hbk
  refine ⟨?_, v', a, c, block_set hbk2 v', own_setBlock h2 (Nat.lt_succ_self _) _, r0⟩
  exact ((h.bel.trans (hb.mono (Nat.le_of_lt hl))).grown hg (Nat.le_trans (Nat.le_of_lt hl) hb.size) (fun k hk => by have := (World.ownsRow.lt hown k hk).1; omega)).setCell (p := ⟨U.W0.heap.size, 1, none⟩) (Nat.le_refl _) _
set_option maxHeartbeats 2000000 in
theorem wbyte_any (U : Wup) (w : World) (l : Bytes) (ys : List (Int × Int)) (h : WIs U w l ys) (hl : l.length ≤ 1000000) (c : UInt8) (z : Int) (hz : z = (c.toNat : Int)) :
    Calls Tryz.prog 144 #[.pointer (some ⟨U.W0.heap.size, 0, none⟩), .int .u8 z] w fun e w' => e = .returned .nilIface ∧ WIs U w' (l ++ [c]) ys := by
  subst hz
  obtain ⟨i0, hi, hz0, hz1, hz2⟩ := info_parts infoPB
  have HP := Lib.hid (fun (w1 w w2 : World) (p v v' : Value) (a : Option Addr) (c' : Nat) h hb hbk hown hg h2 => @WAt.put1 U w w1 w2 l (l ++ [c]) ys p v v' h hb a c' hbk hown hg h2)
  have HC := Lib.hid (checkW_any U w l ys h)
  go_enter Tryz.func144, Tryz.ntmps144
  go_wp2_with (go_at_call 146; refine HC.out.mono ?_)
  rintro e w1 ⟨rfl, h1⟩
  obtain ⟨v, a, c1', hbk, hown, _⟩ := h1.blk
  have c0 : w1.cell? ⟨U.W0.heap.size, 0, none⟩ = some (.pointer (some ⟨U.W0.heap.size, 0, none⟩)) := by rw [Lib.cell_of_heap hbk]; rfl
  have c1 : w1.cell? ⟨U.W0.heap.size, 1, none⟩ = some v := by rw [Lib.cell_of_heap hbk]; rfl
  have hlt := h1.lt
  have hba := below_alloc6 w1 (.cells #[.int .u8 (c.toNat : Int)] TU)
  go_wp2_with (at_builtin; refine wpList_append_own _ rfl _ _ 46 rfl (U.W0.heap.size + 1) TU i0 (.int .u8 0) 1 1 Tryz.underlying46 hi hz0 hz1 hz2 rfl (by decide) _ _ _ rfl (hown.alloc _) ⟨w1.heap.size, 0, none⟩ 1 1 [.int .u8 (c.toNat : Int)] rfl rfl (cell_one_new6 _ _ _) (by intro u hu; simp at hu; subst hu; rfl) (by unfold maxLen; omega) (by omega) (by simp; omega) ?_)
  intro v' w2 hown' hgrow _
  have hb2 : w2.heap[U.W0.heap.size]? = some (.cells #[.pointer (some ⟨U.W0.heap.size, 0, none⟩), v, .slice a ys.length c1', .slice U.na U.ns.length U.nc] TW (0, 0)) := by
    rw [hgrow.block _ (by simp; omega) (own_high hown (Nat.lt_succ_self _)), hba.block _ hlt]
    exact hbk
  have d0 : w2.cell? ⟨U.W0.heap.size, 0, none⟩ = some (.pointer (some ⟨U.W0.heap.size, 0, none⟩)) := by rw [Lib.cell_of_heap hb2]; rfl
  have d1 : w2.cell? ⟨U.W0.heap.size, 1, none⟩ = some v := by rw [Lib.cell_of_heap hb2]; rfl
  have f1 : w2.frozen? ⟨U.W0.heap.size, 1, none⟩ = false := Lib.frozen_of_heap hb2 1
  have HF := Lib.hid (HP.out w1 _ w2 _ v v' a c1' h1 hba hbk hown hgrow (by
    rw [Lib.byteCells_append, List.length_append]
    exact hown'))
  obtain ⟨g, cap, rfl, _, _⟩ := hown'.form (by omega)
  go_wp2
  go_ret
  exact ⟨rfl, .inr HF.out⟩
set_option maxHeartbeats 2000000 in
theorem wstr_any (U : Wup) (w : World) (l : Bytes) (ys : List (Int × Int)) (h : WIs U w l ys) (x : Bytes) (hl : l.length + x.length ≤ 1000000) (X : ByteArray) (hX : mkS x = X) :
    Calls Tryz.prog 95 #[.pointer (some ⟨U.W0.heap.size, 0, none⟩), .string X] w fun e w' => e = .returned (.tuple #[.int .i64 (X.size : Int), .nilIface]) ∧ WIs U w' (l ++ x) ys := by
  subst hX
  obtain ⟨i0, hi, hz0, hz1, hz2⟩ := info_parts infoPB
  have HP := Lib.hid (fun (w1 w w2 : World) (p v v' : Value) (a : Option Addr) (c' : Nat) h hb hbk hown hg h2 => @WAt.put1 U w w1 w2 l (l ++ x) ys p v v' h hb a c' hbk hown hg h2)
  have HC := Lib.hid (checkW_any U w l ys h)
  have hsz := mkS_size x
  go_enter Tryz.func95, Tryz.ntmps95
  go_wp2_with (go_at_call 146; refine HC.out.mono ?_)
  rintro e w1 ⟨rfl, h1⟩
  obtain ⟨v, a, c1', hbk, hown, _⟩ := h1.blk
  have c0 : w1.cell? ⟨U.W0.heap.size, 0, none⟩ = some (.pointer (some ⟨U.W0.heap.size, 0, none⟩)) := by rw [Lib.cell_of_heap hbk]; rfl
  have c1 : w1.cell? ⟨U.W0.heap.size, 1, none⟩ = some v := by rw [Lib.cell_of_heap hbk]; rfl
  have hlt := h1.lt
  go_wp2_with (at_builtin; refine Lib.wpList_append_own_string _ rfl _ _ 46 9 rfl (U.W0.heap.size + 1) TU i0 Tryz.underlying46 Tryz.underlying9 hi hz0 hz1 hz2 _ _ _ rfl hown (mkS x) rfl (by unfold maxLen; omega) (by omega) (by omega) ?_)
  intro v' w2 hown' hgrow _
  have hb2 : w2.heap[U.W0.heap.size]? = some (.cells #[.pointer (some ⟨U.W0.heap.size, 0, none⟩), v, .slice a ys.length c1', .slice U.na U.ns.length U.nc] TW (0, 0)) := by
    rw [hgrow.block _ hlt (own_high hown (Nat.lt_succ_self _))]
    exact hbk
  have d0 : w2.cell? ⟨U.W0.heap.size, 0, none⟩ = some (.pointer (some ⟨U.W0.heap.size, 0, none⟩)) := by rw [Lib.cell_of_heap hb2]; rfl
  have d1 : w2.cell? ⟨U.W0.heap.size, 1, none⟩ = some v := by rw [Lib.cell_of_heap hb2]; rfl
  have f1 : w2.frozen? ⟨U.W0.heap.size, 1, none⟩ = false := Lib.frozen_of_heap hb2 1
  have hsc : Lib.strCells (mkS x) = Lib.byteCells x := by
    unfold Lib.strCells Lib.byteCells
    rw [mkS_list]
  have HF := Lib.hid (HP.out w1 _ w2 _ v v' a c1' h1 (Below.refl _ _) hbk hown hgrow (by
    rw [Lib.byteCells_append, List.length_append, ← hsz, ← hsc]
    exact hown'))
  obtain ⟨ao, n', cap, rfl⟩ : ∃ ao n' cap, v' = .slice ao n' cap := by
    rcases hown'.2 with ⟨hv, _⟩ | ⟨g, cap, cur, hv, _⟩
    · exact ⟨_, _, _, hv⟩
    · exact ⟨_, _, _, hv⟩
  generalize mkS x = X at *
  go_wp2
  go_ret2
  exact ⟨rfl, .inr HF.out⟩
set_option maxHeartbeats 1000000 in
theorem wlen_any (U : Wup) (w : World) (l : Bytes) (ys : List (Int × Int)) (h : WIs U w l ys) :
    Calls Tryz.prog 42 #[.pointer (some ⟨U.W0.heap.size, 0, none⟩)] w fun e w' => e = .returned (.int .i64 (l.length : Int)) ∧ w' = w := by
  obtain ⟨p, h⟩ := h.at_
  obtain ⟨v, a, c, hbk, hown, _⟩ := h.blk
  obtain ⟨ao, cap, rfl⟩ : ∃ ao cap, v = .slice ao l.length cap := by
    rcases hown.2 with ⟨hv, h0⟩ | ⟨g, cap, cur, hv, _⟩
    · exact ⟨none, 0, by rw [hv, h0]⟩
    · exact ⟨_, _, hv⟩
  have c1 : w.cell? ⟨U.W0.heap.size, 1, none⟩ = some (.slice ao l.length cap) := by rw [Lib.cell_of_heap hbk]; rfl
  clear h hbk hown
  generalize U.W0.heap.size = b at *
  generalize l.length = n at *
  go_enter Tryz.func42, Tryz.ntmps42
  go_wp2
  go_ret
  exact ⟨rfl, rfl⟩
theorem cellsByte6 : Tryz.prog.cellsOf TU = 1 := by kernel_rfl
set_option maxHeartbeats 1000000 in
theorem wstring_any (U : Wup) (w : World) (l : Bytes) (ys : List (Int × Int)) (h : WIs U w l ys) (h0 : l ≠ []) :
    Calls Tryz.prog 43 #[.pointer (some ⟨U.W0.heap.size, 0, none⟩)] w fun e w' => e = .returned (.string (mkS l)) ∧ Below U.W0.heap.size w w' := by
  obtain ⟨p, h⟩ := h.at_
  obtain ⟨v, a, c, hbk, hown, _⟩ := h.blk
  have hl0 : l.length ≠ 0 := by simpa using h0
  obtain ⟨g, cap, cur, rfl, hbg, hg, hnc, hcm, hcs, htake⟩ : ∃ g cap cur, v = .slice (some ⟨g, 0, none⟩) l.length cap ∧ U.W0.heap.size + 1 ≤ g ∧ w.heap[g]? = some (.cells cur TU (0, 0)) ∧ l.length ≤ cap ∧ cap ≤ maxLen ∧ cur.size = cap * 1 ∧ cur.toList.take (l.length * 1) = Lib.byteCells l := by
    rcases hown.2 with ⟨_, hz⟩ | ⟨g, cap, cur, hv, r⟩
    · exact absurd hz hl0
    · exact ⟨g, cap, cur, hv, r⟩
  have c1 : w.drew.cell? ⟨U.W0.heap.size, 1, none⟩ = some (.slice (some ⟨g, 0, none⟩) l.length cap) := by
    show w.cell? _ = _
    rw [Lib.cell_of_heap hbk]; rfl
  have hSD : (Builtin.unsafeSliceData_ #[46] 115 #[.slice (some ⟨g, 0, none⟩) l.length cap]).run Tryz.prog w.drew = .ok (.pointer (some ⟨g, 0, none⟩)) w.drew :=
    Lib.run_unsafeSliceData_row _ _ _ _ _ _ (by omega)
  have hUS : (Builtin.unsafeString_ #[115, 3] 9 #[.pointer (some ⟨g, 0, none⟩), .int .i64 l.length]).run Tryz.prog w.drew = .ok (.string ⟨l.toArray⟩) (w.drew.freeze ⟨g, 0, none⟩ l.length) := by
    refine Lib.run_unsafeString_row w.drew 115 3 9 TU Tryz.underlying115 cellsByte6 g cur.size (by have hg' : w.drew.heap[g]? = some (.cells cur TU (0, 0)) := hg; simp [World.shape?, hg']) l h0 (by omega) (by unfold maxLen at hcm; omega) ?_
    intro j x hx
    have := hown.cells (g := g) rfl j (.int .u8 x.toNat) (by simp [Lib.byteCells, hx])
    exact this
  have mixed : Tryz.prog.follows Departure.mixedOrders = true := by kernel_rfl
  clear h hbk hown htake hcs
  show Calls _ _ _ _ fun e w' => e = .returned (.string ⟨l.toArray⟩) ∧ _
  generalize hpb : U.W0.heap.size = b at *
  go_enter Tryz.func43, Tryz.ntmps43
  go_wp2
  go_region_o
  all_goals (go_wp2; go_ret; exact ⟨rfl, Lib.below_freeze (Below.drew (Below.refl b w)) (p := ⟨g, 0, none⟩) (by show b ≤ g; omega) _⟩)
end Go.Proofs.YtdbahiepihkagaaGreatDoor
namespace Go.Proofs.YtdbahiepihkagaaGreatDoor
set_option maxRecDepth 100000
open Go.RowKit

theorem dec_digits6 (n : Nat) : Lib.decDigits n = decB n := by
  induction n using Nat.strongRecOn with
  | ind n ih =>
    rw [Lib.decDigits]
    by_cases h : n < 10
    · rw [dif_pos h, dec_small h]; rfl
    · rw [dif_neg h, dec_big (by omega), ih (n / 10) (by omega)]; rfl
theorem itoa6 (n : Nat) (hn : n ≤ 1073741824) (w : World) (hT : Tb w) :
    Calls Tryz.prog 145 #[.int .i64 (n : Int)] w fun e w' => e = .returned (.string (mkS (decB n))) ∧ Below w.heap.size w w' := by
  refine (Tryz.strconv_Itoa (n : Int) (by omega) (by omega) w hT).mono ?_
  rintro e w' ⟨rfl, k, os, rfl⟩
  exact ⟨by rw [Lib.itoa_nonneg, dec_digits6]; rfl, Lib.below_grow _ w (Nat.le_refl _) k os⟩
/-- what a writing call does -/
def Wrote (U : Wup) (l : Bytes) (ys : List (Int × Int)) (e : Ending) (w' : World) : Prop := e = .returned (.tuple #[]) ∧ WIs U w' l ys
theorem WIs.tab {U : Wup} (hU : U.Ok) {w : World} {l : Bytes} {ys : List (Int × Int)} (h : WIs U w l ys) : Tb w := by
  obtain ⟨p, h⟩ := h.at_
  exact hU.tab.below h.bel (Nat.le_refl _)
theorem WIs.words {U : Wup} (hU : U.Ok) {w : World} {l : Bytes} {ys : List (Int × Int)} (h : WIs U w l ys) : Wd w := by
  obtain ⟨p, h⟩ := h.at_
  exact hU.words.below h.bel (Nat.le_refl _)
theorem WIs.cells {U : Wup} {w : World} {l : Bytes} {ys : List (Int × Int)} (h : WIs U w l ys) : U.W0.heap.size < w.heap.size ∧ (∃ a c, w.cell? ⟨U.W0.heap.size, 2, none⟩ = some (.slice a ys.length c) ∧ ys.length ≤ c ∧ ∃ k, k + ys.length = U.xs.length ∧ ys = U.xs.drop k ∧ (0 < ys.length → a = some ⟨U.xb, U.xo + k * 2, none⟩)) ∧ w.cell? ⟨U.W0.heap.size, 3, none⟩ = some (.slice U.na U.ns.length U.nc) ∧ w.frozen? ⟨U.W0.heap.size, 2, none⟩ = false := by
  obtain ⟨p, h⟩ := h.at_
  obtain ⟨v, a, c, hb, _, hc, hk⟩ := h.blk
  exact ⟨h.lt, ⟨a, c, by rw [Lib.cell_of_heap hb]; rfl, hc, hk⟩, by rw [Lib.cell_of_heap hb]; rfl, Lib.frozen_of_heap hb 2⟩
set_option maxHeartbeats 4000000 in
theorem aloneW (U : Wup) (hU : U.Ok) (t : Int × Int) (hw : arF t.1 = 0) (ha : argB t U.ns.length = true) (w : World) (l : Bytes) (ys : List (Int × Int)) (h : WIs U w l ys) (hl : l.length ≤ 500000) :
    Calls Tryz.prog 86 #[.pointer (some ⟨U.W0.heap.size, 0, none⟩), .agg #[.int .i64 t.1, .int .i64 t.2]] w (Wrote U (l ++ leafT U.ns t) ys) := by
  have hr := ar_leaf hw
  have HI := Lib.hid (fun W (hb : Below w.heap.size w W) => h.far hb)
  have hlt := h.cells.1
  obtain ⟨op, arg⟩ := t
  dsimp only at hr
  have hba := below_alloc6 w (.cells #[.int .i64 op, .int .i64 arg] 55)
  unfold leafT Wrote
  dsimp only
  by_cases h1 : op = 1
  · subst h1
    rw [if_pos rfl]
    unfold argB at ha
    dsimp only at ha
    rw [if_pos rfl, decide_eq_true_eq] at ha
    obtain ⟨n, rfl⟩ : ∃ n : Nat, arg = (n : Int) := ⟨arg.toNat, by omega⟩
    rw [Int.toNat_natCast]
    have hdl := dec_len (n := n) (by omega)
    have HD := Lib.hid (fun W (hT : Tb W) => itoa6 n (by omega) W hT)
    have HS := Lib.hid (fun W (hW : WIs U W l ys) => wstr_any U W l ys hW (decB n) (by omega) (mkS (decB n)) rfl)
    have HT := Lib.hid (fun W (hW : WIs U W l ys) => hW.tab hU)
    clear ha hU hl hdl
    generalize mkS (decB n) = Y at *
    generalize decB n = y at *
    generalize hpb : U.W0.heap.size = pb at *
    have q1 : (w.alloc (.cells #[.int .i64 1, .int .i64 (n : Int)] 55)).cell? ⟨w.heap.size, 1, none⟩ = some (.int .i64 (n : Int)) := World.cell?_alloc_new w _ _ 1
    go_enter Tryz.func86, Tryz.ntmps86
    go_wp2
    obtain ⟨W1, hW1⟩ : ∃ W1, W1 = w.alloc (.cells #[.int .i64 1, .int .i64 (n : Int)] 55) := ⟨_, rfl⟩
    rw [← hW1] at q1 hba ⊢
    clear hW1
    have hI1 := HI.out _ hba
    have hT1 := HT.out _ hI1
    go_region_with (first | (go_at_call 145; refine (HD.out _ (by first | exact hT1 | exact HT.out _ (HI.out _ (belDraws hba _)))).mono ?_; rintro e w2 ⟨rfl, hb2⟩; have hI2 := HI.out _ (Below.trans (by first | exact hba | exact belDraws hba _) (hb2.mono (by first | exact hba.size | exact (belDraws hba _).size)))) | (go_at_call 95; refine (HS.out _ hI2).mono ?_; rintro e w3 ⟨rfl, hI3⟩))
    go_wp2_with fail
    go_end0
    exact ⟨rfl, hI3⟩
  rw [if_neg h1]
  have d1 : (op == 1) = false := by simpa using h1
  by_cases h5 : op = 5
  · subst h5
    rw [if_pos rfl]
    unfold argB at ha
    dsimp only at ha
    rw [if_neg (by decide), if_pos (.inl rfl), decide_eq_true_eq] at ha
    obtain ⟨n, rfl⟩ : ∃ n : Nat, arg = (n : Int) := ⟨arg.toNat, by omega⟩
    rw [Int.toNat_natCast]
    have hI1 := HI.out _ hba
    obtain ⟨p1, hA1⟩ := hI1.at_
    obtain ⟨nb, no, hna, _, hnc⟩ := (hU.names.below hA1.bel rfl).row (by omega)
    have hcn := hnc n (by omega)
    obtain ⟨_, _, k3, _⟩ := hI1.cells
    rw [hna] at k3
    have r0 : (0 : Int) ≤ (n : Int) := by omega
    have r1 : (n : Int) < (U.ns.length : Int) := by omega
    have hl24 := (name_word (good_at hU.good (i := n) (by omega)).1).len
    have HS := Lib.hid (fun W (hW : WIs U W l ys) => wstr_any U W l ys hW (U.ns.getD n []) (by omega) (mkS (U.ns.getD n [])) rfl)
    clear ha hU hl hl24 hnc hna hA1
    generalize mkS (U.ns.getD n []) = Y at *
    generalize U.ns.getD n [] = y at *
    generalize U.ns.length = nn at *
    generalize hpb : U.W0.heap.size = pb at *
    have q1 : (w.alloc (.cells #[.int .i64 5, .int .i64 (n : Int)] 55)).cell? ⟨w.heap.size, 1, none⟩ = some (.int .i64 (n : Int)) := World.cell?_alloc_new w _ _ 1
    go_enter Tryz.func86, Tryz.ntmps86
    go_wp2
    obtain ⟨W1, hW1⟩ : ∃ W1, W1 = w.alloc (.cells #[.int .i64 5, .int .i64 (n : Int)] 55) := ⟨_, rfl⟩
    rw [← hW1] at q1 hI1 k3 hcn ⊢
    clear hW1
    have HI1 := Lib.hid (fun m => hI1.far (belDraws (Below.refl _ _) m))
    go_region_with (go_at_call 95; refine (HS.out _ (by first | exact hI1 | exact HI1.out _)).mono ?_; rintro e w3 ⟨rfl, hI3⟩)
    all_goals (go_wp2_with fail; go_end0; exact ⟨rfl, hI3⟩)
  rw [if_neg h5]
  have d5 : (op == 5) = false := by simpa using h5
  by_cases h12 : op = 12
  · subst h12
    rw [if_pos rfl]
    unfold argB at ha
    dsimp only at ha
    rw [if_neg (by decide), if_pos (.inr rfl), decide_eq_true_eq] at ha
    obtain ⟨n, rfl⟩ : ∃ n : Nat, arg = (n : Int) := ⟨arg.toNat, by omega⟩
    rw [Int.toNat_natCast]
    have hI1 := HI.out _ hba
    obtain ⟨p1, hA1⟩ := hI1.at_
    obtain ⟨nb, no, hna, _, hnc⟩ := (hU.names.below hA1.bel rfl).row (by omega)
    have hcn := hnc n (by omega)
    obtain ⟨_, _, k3, _⟩ := hI1.cells
    rw [hna] at k3
    have r0 : (0 : Int) ≤ (n : Int) := by omega
    have r1 : (n : Int) < (U.ns.length : Int) := by omega
    have hl24 := (name_word (good_at hU.good (i := n) (by omega)).1).len
    have hadd : ∀ W, (Op.stringOp .add ⟨#[113, 46]⟩ (mkS (U.ns.getD n []))).run Tryz.prog W = .ok (.string (mkS (113 :: 46 :: U.ns.getD n []))) W := fun W => mkS_add [113, 46] _ (by simp) (by omega) W
    have HS := Lib.hid (fun W (hW : WIs U W l ys) => wstr_any U W l ys hW (113 :: 46 :: U.ns.getD n []) (by rw [List.length_cons, List.length_cons]; omega) (mkS (113 :: 46 :: U.ns.getD n [])) rfl)
    clear ha hU hl hl24 hnc hna hA1
    generalize mkS (113 :: 46 :: U.ns.getD n []) = Z at *
    generalize mkS (U.ns.getD n []) = Y at *
    generalize U.ns.getD n [] = y at *
    generalize U.ns.length = nn at *
    generalize hpb : U.W0.heap.size = pb at *
    have q1 : (w.alloc (.cells #[.int .i64 12, .int .i64 (n : Int)] 55)).cell? ⟨w.heap.size, 1, none⟩ = some (.int .i64 (n : Int)) := World.cell?_alloc_new w _ _ 1
    go_enter Tryz.func86, Tryz.ntmps86
    go_wp2
    obtain ⟨W1, hW1⟩ : ∃ W1, W1 = w.alloc (.cells #[.int .i64 12, .int .i64 (n : Int)] 55) := ⟨_, rfl⟩
    rw [← hW1] at q1 hI1 k3 hcn ⊢
    clear hW1
    have HI1 := Lib.hid (fun m => hI1.far (belDraws (Below.refl _ _) m))
    go_region_with (go_at_call 95; refine (HS.out _ (by first | exact hI1 | exact HI1.out _)).mono ?_; rintro e w3 ⟨rfl, hI3⟩)
    all_goals (go_wp2_with fail; go_end0; exact ⟨rfl, hI3⟩)
  rw [if_neg h12]
  have d12 : (op == 12) = false := by simpa using h12
  obtain ⟨k, rfl⟩ : ∃ k : Nat, op = (k : Int) := ⟨op.toNat, by omega⟩
  have hI1 := HI.out _ hba
  have hcw := (hI1.words hU).at_ k (by omega)
  have r0 : (0 : Int) ≤ (k : Int) := by omega
  have r1 : (k : Int) < 43 := by omega
  have hwl : (wordF (k : Int)).length ≤ 8 := by
    have : ∀ j : Nat, j < 44 → (wordF (j : Int)).length ≤ 8 := by decide
    exact this k (by omega)
  have HS := Lib.hid (fun W (hW : WIs U W l ys) => wstr_any U W l ys hW (wordF (k : Int)) (by omega) (mkS (wordF (k : Int))) rfl)
  clear ha hU hl hwl h1 h5 h12 hw
  generalize mkS (wordF (k : Int)) = Y at *
  generalize wordF (k : Int) = y at *
  generalize hpb : U.W0.heap.size = pb at *
  have q1 : (w.alloc (.cells #[.int .i64 (k : Int), .int .i64 arg] 55)).cell? ⟨w.heap.size, 0, none⟩ = some (.int .i64 (k : Int)) := World.cell?_alloc_new w _ _ 0
  go_enter Tryz.func86, Tryz.ntmps86
  go_wp2
  obtain ⟨W1, hW1⟩ : ∃ W1, W1 = w.alloc (.cells #[.int .i64 (k : Int), .int .i64 arg] 55) := ⟨_, rfl⟩
  rw [← hW1] at q1 hI1 hcw ⊢
  clear hW1
  have HI1 := Lib.hid (fun m => hI1.far (belDraws (Below.refl _ _) m))
  go_region_with (go_at_call 95; refine (HS.out _ (by first | exact hI1 | exact HI1.out _)).mono ?_; rintro e w3 ⟨rfl, hI3⟩)
  all_goals (go_wp2_with fail; go_end0; exact ⟨rfl, hI3⟩)
end Go.Proofs.YtdbahiepihkagaaGreatDoor
