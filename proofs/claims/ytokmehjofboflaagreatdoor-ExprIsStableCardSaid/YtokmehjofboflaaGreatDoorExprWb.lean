/- The program's writer in memory; what strings.Builder's methods do within it. -/
import Derived.Test.YtokmehjofboflaaGreatDoorExprRo
import Derived.Test.YtokmehjofboflaaGreatDoorExprFormat4
import Derived.Shelf.Strings.Builder1
import Derived.Lib.ItoaMem
namespace Go.Proofs.YtokmehjofboflaaGreatDoor
set_option maxRecDepth 100000
open Go.RowKit

abbrev TB : TypeId := 55
abbrev TU : TypeId := 5
abbrev TW : TypeId := 57
theorem infoB : (Tryz.prog.info? TB).map (·.size) = some 2 := by kernel_rfl
theorem infoPB : (Tryz.prog.info? TU).map (fun i => (i.zero, i.size, i.bytes)) = some (some (.int .u8 0), 1, 1) := by kernel_rfl
theorem liesW : liesAt Tryz.prog Tryz.prog.depth TW (4 / Tryz.prog.cellsOf TW) 0 TB 1 = true := by kernel_rfl
/-- the library's table of powers of ten -/
def Tb (w : World) : Prop := Lib.TabIs Tryz.prog w "internal/strconv.uint64pow10" .u64 Lib.pow10Tab
theorem tab_kept {w w' : World} {B g : Nat} {n : String} {k : IntKind} {zs : List Int} (hg : Tryz.prog.globalNamed n = some g) (h : Lib.TabIs Tryz.prog w n k zs) (hb : Below B w w') (hB : g < B) : Lib.TabIs Tryz.prog w' n k zs := by
  unfold Lib.TabIs World.var? at h ⊢
  rw [hg] at h ⊢
  simp only [Option.bind_some] at h ⊢
  rw [hb.block g hB]
  exact h
theorem Tb.lt {w : World} (h : Tb w) : 2 < w.heap.size := by
  unfold Tb Lib.TabIs World.var? at h
  rw [show Tryz.prog.globalNamed "internal/strconv.uint64pow10" = some 2 by kernel_rfl] at h
  simp only [Option.bind_some] at h
  rcases Nat.lt_or_ge 2 w.heap.size with h' | h'
  · exact h'
  · rw [Array.getElem?_eq_none h'] at h
    cases h
theorem Tb.below {w w' : World} {B : Nat} (h : Tb w) (hb : Below B w w') (hB : w.heap.size ≤ B) : Tb w' :=
  tab_kept (show Tryz.prog.globalNamed "internal/strconv.uint64pow10" = some 2 by kernel_rfl) h hb (Nat.lt_of_lt_of_le h.lt hB)
structure Wup where
  W0 : World
  xb : Nat
  xo : Nat
  xs : List (Int × Int)
  na : Option Addr
  nc : Nat
  ns : List Bytes
structure Wup.Ok (U : Wup) : Prop where
  links : LinksAt U.W0 (some ⟨U.xb, U.xo, none⟩) U.xs
  names : NamesAt U.W0 U.na U.ns
  words : Wd U.W0
  tab : Tb U.W0
  good : goodF U.ns = true
  few : U.xs.length ≤ 1000
/-- the writer's struct: what is written, what is still to be written -/
structure WAt (U : Wup) (w : World) (l : Bytes) (ys : List (Int × Int)) (p : Value) : Prop where
  bel : Below U.W0.heap.size U.W0 w
  blk : ∃ v a c, w.heap[U.W0.heap.size]? = some (.cells #[p, v, .slice a ys.length c, .slice U.na U.ns.length U.nc] TW (0, 0)) ∧ w.ownsRow (U.W0.heap.size + 1) TU 1 v l.length (Lib.byteCells l) ∧ ys.length ≤ c ∧
    ∃ k, k + ys.length = U.xs.length ∧ ys = U.xs.drop k ∧ (0 < ys.length → a = some ⟨U.xb, U.xo + k * 2, none⟩)
def WIs (U : Wup) (w : World) (l : Bytes) (ys : List (Int × Int)) : Prop := WAt U w l ys (.pointer none) ∨ WAt U w l ys (.pointer (some ⟨U.W0.heap.size, 0, none⟩))
theorem WIs.at_ {U : Wup} {w : World} {l : Bytes} {ys : List (Int × Int)} (h : WIs U w l ys) : ∃ p, WAt U w l ys p := by
  rcases h with h | h
  · exact ⟨_, h⟩
  · exact ⟨_, h⟩
theorem WIs.map {U : Wup} {w w' : World} {l l' : Bytes} {ys ys' : List (Int × Int)} (h : WIs U w l ys) (f : ∀ p, WAt U w l ys p → WAt U w' l' ys' p) : WIs U w' l' ys' := h.imp (f _) (f _)
theorem cell_one_new6 (w : World) (v : Value) (e : TypeId) : ∀ j u, ([v] : List Value)[j]? = some u → (w.alloc (.cells #[v] e)).cell? ((⟨w.heap.size, 0, none⟩ : Addr).add j) = some u := by
  intro j u hj
  cases j with
  | zero =>
    injection hj with hj
    subst hj
    exact World.cell?_alloc_new w _ _ 0
  | succ j => simp at hj
theorem heap_here {w : World} {b : Nat} {o : Obj} (h : w.heap[b]? = some o) : b < w.heap.size := by
  rcases Nat.lt_or_ge b w.heap.size with h' | h'
  · exact h'
  · simp [Array.getElem?_eq_none h'] at h
theorem WAt.lt {U : Wup} {w : World} {l : Bytes} {ys : List (Int × Int)} {p : Value} (h : WAt U w l ys p) : U.W0.heap.size < w.heap.size := by
  obtain ⟨v, a, c, hb, _⟩ := h.blk
  exact heap_here hb
theorem own_high {w : World} {B : Nat} {e : TypeId} {n : Nat} {v : Value} {xs : List Value} (h : w.ownsRow B e 1 v n xs) {k : Nat} (hk : k < B) : some k ≠ v.ownBlock := fun e => by
  have := (World.ownsRow.lt h k e.symm).1
  omega
theorem WAt.far {U : Wup} {w w' : World} {l : Bytes} {ys : List (Int × Int)} {p : Value} (h : WAt U w l ys p) (hb : Below w.heap.size w w') : WAt U w' l ys p := by
  have hl := h.lt
  obtain ⟨v, a, c, e, ho, hr⟩ := h.blk
  exact ⟨h.bel.trans (hb.mono (Nat.le_of_lt hl)), v, a, c, (hb.block _ hl).trans e, ho.kept (row := none) ⟨hb.os, hb.tape, hb.output, hb.size, fun k hk _ => hb.block k hk⟩ (by cases v.ownBlock <;> simp), hr⟩
theorem WIs.far {U : Wup} {w w' : World} {l : Bytes} {ys : List (Int × Int)} (h : WIs U w l ys) (hb : Below w.heap.size w w') : WIs U w' l ys := h.map fun _ k => k.far hb
theorem block_set {w : World} {b i : Nat} {cs : Array Value} {t : TypeId} (h : w.heap[b]? = some (.cells cs t (0, 0))) (v : Value) : (w.setCell ⟨b, i, none⟩ v).heap[b]? = some (.cells (cs.setIfInBounds i v) t (0, 0)) := by
  simp [World.setCell, Array.getElem?_modify, h]
theorem own_setBlock {w : World} {B b i : Nat} {e : TypeId} {n : Nat} {v : Value} {xs : List Value} (h : w.ownsRow B e 1 v n xs) (hb : b < B) (u : Value) : (w.setCell ⟨b, i, none⟩ u).ownsRow B e 1 v n xs :=
  ownsRow_setCell_below h (a := ⟨b, i, none⟩) hb u
theorem WAt.used {U : Wup} {w : World} {l : Bytes} {ys : List (Int × Int)} {p : Value} (h : WAt U w l ys p) (q : Value) : WAt U (w.setCell ⟨U.W0.heap.size, 0, none⟩ q) l ys q := by
  obtain ⟨v, a, c, e, ho, hr⟩ := h.blk
  exact ⟨h.bel.setCell (p := ⟨U.W0.heap.size, 0, none⟩) (Nat.le_refl _) _, v, a, c, block_set e q, own_setBlock ho (Nat.lt_succ_self _) _, hr⟩
set_option maxHeartbeats 1000000 in
theorem checkW_used (U : Wup) (w : World) (l : Bytes) (ys : List (Int × Int)) (h : WAt U w l ys (.pointer (some ⟨U.W0.heap.size, 0, none⟩))) :
    Calls Tryz.prog 112 #[.pointer (some ⟨U.W0.heap.size, 0, none⟩)] w fun e w' => e = .returned (.tuple #[]) ∧ w' = w := by
  obtain ⟨v, a, c, e, _⟩ := h.blk
  have h0 : w.cell? ⟨U.W0.heap.size, 0, none⟩ = some (.pointer (some ⟨U.W0.heap.size, 0, none⟩)) := by rw [Lib.cell_of_heap e]; rfl
  obtain ⟨j, hj, _⟩ := Option.map_eq_some_iff.1 infoB
  clear h e
  generalize U.W0.heap.size = b at *
  go_enter Tryz.func112, Tryz.ntmps112
  go_wp2
  rw [Lib.run_neq_ptr_same w _ Tryz.underlying52 hj]
  go_wp2
  go_end0
  exact ⟨rfl, rfl⟩
set_option maxHeartbeats 1000000 in
theorem checkW_fresh (U : Wup) (w : World) (l : Bytes) (ys : List (Int × Int)) (h : WAt U w l ys (.pointer none)) :
    Calls Tryz.prog 112 #[.pointer (some ⟨U.W0.heap.size, 0, none⟩)] w fun e w' => e = .returned (.tuple #[]) ∧ w' = w.setCell ⟨U.W0.heap.size, 0, none⟩ (.pointer (some ⟨U.W0.heap.size, 0, none⟩)) := by
  obtain ⟨v, a, c, e, _⟩ := h.blk
  have h0 : w.cell? ⟨U.W0.heap.size, 0, none⟩ = some (.pointer none) := by rw [Lib.cell_of_heap e]; rfl
  have hsh : w.shape? U.W0.heap.size = some (TW, 4) := by simp [World.shape?, e]
  have hfz : w.frozen? ⟨U.W0.heap.size, 0, none⟩ = false := Lib.frozen_of_heap e 0
  obtain ⟨j, hj, hjs⟩ := Option.map_eq_some_iff.1 infoB
  clear h e
  generalize U.W0.heap.size = b at *
  go_enter Tryz.func112, Tryz.ntmps112
  go_wp2
  rw [Lib.run_to_unsafe w ⟨b, 0, none⟩ Tryz.underlying52 Tryz.underlying117 hj (by rw [hjs]; decide) hsh (Nat.zero_lt_succ 3)]
  simp only [Result.andThen]
  rw [Oper.upon_value]
  go_wp2
  rw [run_callFunc_extern Tryz.func126 (by kernel_rfl) (by kernel_rfl) (by kernel_rfl) (e := Extern.AbiNoEscape.same) (by kernel_rfl)]
  rw [Lib.run_noEscape]
  simp only [Result.andThen]
  rw [Oper.upon_value]
  go_wp2
  rw [Lib.run_from_unsafe w ⟨b, 0, none⟩ Tryz.underlying117 Tryz.underlying52 hj hsh liesW]
  simp only [Result.andThen]
  rw [Oper.upon_value]
  go_wp2
  go_end0
  exact ⟨rfl, rfl⟩
theorem checkW_any (U : Wup) (w : World) (l : Bytes) (ys : List (Int × Int)) (h : WIs U w l ys) :
    Calls Tryz.prog 112 #[.pointer (some ⟨U.W0.heap.size, 0, none⟩)] w fun e w' => e = .returned (.tuple #[]) ∧ WAt U w' l ys (.pointer (some ⟨U.W0.heap.size, 0, none⟩)) := by
  rcases h with h | h
  · refine (checkW_fresh U w l ys h).mono ?_
    rintro e w' ⟨rfl, rfl⟩
    exact ⟨rfl, h.used _⟩
  · refine (checkW_used U w l ys h).mono ?_
    rintro e w' ⟨rfl, rfl⟩
    exact ⟨rfl, h⟩
theorem WAt.put1 {U : Wup} {w w1 w2 : World} {l l' : Bytes} {ys : List (Int × Int)} {p v v' : Value} (h : WAt U w1 l ys p) (hb : Below w1.heap.size w1 w) {a : Option Addr} {c : Nat} (hbk : w1.heap[U.W0.heap.size]? = some (.cells #[p, v, .slice a ys.length c, .slice U.na U.ns.length U.nc] TW (0, 0))) (hown : w1.ownsRow (U.W0.heap.size + 1) TU 1 v l.length (Lib.byteCells l))
    (hg : w.grownBy w2 v.ownBlock) (h2 : w2.ownsRow (U.W0.heap.size + 1) TU 1 v' l'.length (Lib.byteCells l')) : WAt U (w2.setCell ⟨U.W0.heap.size, 1, none⟩ v') l' ys p := by
  have hl := h.lt
  obtain ⟨v0, a0, c0, e0, o0, r0⟩ := h.blk
  rw [hbk] at e0
  injection e0 with e0
  injection e0 with e0
  have e0' := congrArg Array.toList e0
  injection e0' with _ e0'
  injection e0' with ev e0'
  injection e0' with es _
  injection es with ea _ ec
  subst ev ea ec
  have hbk2 : w2.heap[U.W0.heap.size]? = some (.cells #[p, v, .slice a ys.length c, .slice U.na U.ns.length U.nc] TW (0, 0)) := by
    rw [hg.block _ (Nat.lt_of_lt_of_le hl hb.size) (own_high hown (Nat.lt_succ_self _)), hb.block _ hl]
    exact hbk
  refine ⟨?_, v', a, c, block_set hbk2 v', own_setBlock h2 (Nat.lt_succ_self _) _, r0⟩
  exact ((h.bel.trans (hb.mono (Nat.le_of_lt hl))).grown hg (Nat.le_trans (Nat.le_of_lt hl) hb.size) (fun k hk => by have := (World.ownsRow.lt hown k hk).1; omega)).setCell (p := ⟨U.W0.heap.size, 1, none⟩) (Nat.le_refl _) _
set_option maxHeartbeats 2000000 in
theorem wbyte_any (U : Wup) (w : World) (l : Bytes) (ys : List (Int × Int)) (h : WIs U w l ys) (hl : l.length ≤ 1000000) (c : UInt8) (z : Int) (hz : z = (c.toNat : Int)) :
    Calls Tryz.prog 102 #[.pointer (some ⟨U.W0.heap.size, 0, none⟩), .int .u8 z] w fun e w' => e = .returned .nilIface ∧ WIs U w' (l ++ [c]) ys := by
  subst hz
  obtain ⟨i0, hi, hz0, hz1, hz2⟩ := info_parts infoPB
  have HP := Lib.hid (fun (w1 w w2 : World) (p v v' : Value) (a : Option Addr) (c' : Nat) h hb hbk hown hg h2 => @WAt.put1 U w w1 w2 l (l ++ [c]) ys p v v' h hb a c' hbk hown hg h2)
  have HC := Lib.hid (checkW_any U w l ys h)
  go_enter Tryz.func102, Tryz.ntmps102
  go_wp2_with (go_at_call 112; refine HC.out.mono ?_)
  rintro e w1 ⟨rfl, h1⟩
  obtain ⟨v, a, c1', hbk, hown, _⟩ := h1.blk
  have c0 : w1.cell? ⟨U.W0.heap.size, 0, none⟩ = some (.pointer (some ⟨U.W0.heap.size, 0, none⟩)) := by rw [Lib.cell_of_heap hbk]; rfl
  have c1 : w1.cell? ⟨U.W0.heap.size, 1, none⟩ = some v := by rw [Lib.cell_of_heap hbk]; rfl
  have hlt := h1.lt
  have hba := below_alloc6 w1 (.cells #[.int .u8 (c.toNat : Int)] TU)
  go_wp2_with (at_builtin; refine wpList_append_own _ rfl _ _ 53 rfl (U.W0.heap.size + 1) TU i0 (.int .u8 0) 1 1 Tryz.underlying53 hi hz0 hz1 hz2 rfl (by decide) _ _ _ rfl (hown.alloc _) ⟨w1.heap.size, 0, none⟩ 1 1 [.int .u8 (c.toNat : Int)] rfl rfl (cell_one_new6 _ _ _) (by intro u hu; simp at hu; subst hu; rfl) (by unfold maxLen; omega) (by omega) (by simp; omega) ?_)
  intro v' w2 hown' hgrow _
  have hb2 : w2.heap[U.W0.heap.size]? = some (.cells #[.pointer (some ⟨U.W0.heap.size, 0, none⟩), v, .slice a ys.length c1', .slice U.na U.ns.length U.nc] TW (0, 0)) := by
    rw [hgrow.block _ (by simp; omega) (own_high hown (Nat.lt_succ_self _)), hba.block _ hlt]
    exact hbk
  have d0 : w2.cell? ⟨U.W0.heap.size, 0, none⟩ = some (.pointer (some ⟨U.W0.heap.size, 0, none⟩)) := by rw [Lib.cell_of_heap hb2]; rfl
  have d1 : w2.cell? ⟨U.W0.heap.size, 1, none⟩ = some v := by rw [Lib.cell_of_heap hb2]; rfl
  have f1 : w2.frozen? ⟨U.W0.heap.size, 1, none⟩ = false := Lib.frozen_of_heap hb2 1
  have HF := Lib.hid (HP.out w1 _ w2 _ v v' a c1' h1 hba hbk hown hgrow (by
    rw [Lib.byteCells_append, List.length_append]
    exact hown'))
  obtain ⟨g, cap, rfl, _, _⟩ := hown'.form (by omega)
  go_wp2
  go_ret
  exact ⟨rfl, .inr HF.out⟩
set_option maxHeartbeats 2000000 in
theorem wstr_any (U : Wup) (w : World) (l : Bytes) (ys : List (Int × Int)) (h : WIs U w l ys) (x : Bytes) (hl : l.length + x.length ≤ 1000000) (X : ByteArray) (hX : mkS x = X) :
    Calls Tryz.prog 103 #[.pointer (some ⟨U.W0.heap.size, 0, none⟩), .string X] w fun e w' => e = .returned (.tuple #[.int .i64 (X.size : Int), .nilIface]) ∧ WIs U w' (l ++ x) ys := by
  subst hX
  obtain ⟨i0, hi, hz0, hz1, hz2⟩ := info_parts infoPB
  have HP := Lib.hid (fun (w1 w w2 : World) (p v v' : Value) (a : Option Addr) (c' : Nat) h hb hbk hown hg h2 => @WAt.put1 U w w1 w2 l (l ++ x) ys p v v' h hb a c' hbk hown hg h2)
  have HC := Lib.hid (checkW_any U w l ys h)
  have hsz := mkS_size x
  go_enter Tryz.func103, Tryz.ntmps103
  go_wp2_with (go_at_call 112; refine HC.out.mono ?_)
  rintro e w1 ⟨rfl, h1⟩
  obtain ⟨v, a, c1', hbk, hown, _⟩ := h1.blk
  have c0 : w1.cell? ⟨U.W0.heap.size, 0, none⟩ = some (.pointer (some ⟨U.W0.heap.size, 0, none⟩)) := by rw [Lib.cell_of_heap hbk]; rfl
  have c1 : w1.cell? ⟨U.W0.heap.size, 1, none⟩ = some v := by rw [Lib.cell_of_heap hbk]; rfl
  have hlt := h1.lt
  go_wp2_with (at_builtin; refine Lib.wpList_append_own_string _ rfl _ _ 53 9 rfl (U.W0.heap.size + 1) TU i0 Tryz.underlying53 Tryz.underlying9 hi hz0 hz1 hz2 _ _ _ rfl hown (mkS x) rfl (by unfold maxLen; omega) (by omega) (by omega) ?_)
  intro v' w2 hown' hgrow _
  have hb2 : w2.heap[U.W0.heap.size]? = some (.cells #[.pointer (some ⟨U.W0.heap.size, 0, none⟩), v, .slice a ys.length c1', .slice U.na U.ns.length U.nc] TW (0, 0)) := by
    rw [hgrow.block _ hlt (own_high hown (Nat.lt_succ_self _))]
    exact hbk
  have d0 : w2.cell? ⟨U.W0.heap.size, 0, none⟩ = some (.pointer (some ⟨U.W0.heap.size, 0, none⟩)) := by rw [Lib.cell_of_heap hb2]; rfl
  have d1 : w2.cell? ⟨U.W0.heap.size, 1, none⟩ = some v := by rw [Lib.cell_of_heap hb2]; rfl
  have f1 : w2.frozen? ⟨U.W0.heap.size, 1, none⟩ = false := Lib.frozen_of_heap hb2 1
  have hsc : Lib.strCells (mkS x) = Lib.byteCells x := by
    unfold Lib.strCells Lib.byteCells
    rw [mkS_list]
  have HF := Lib.hid (HP.out w1 _ w2 _ v v' a c1' h1 (Below.refl _ _) hbk hown hgrow (by
    rw [Lib.byteCells_append, List.length_append, ← hsz, ← hsc]
    exact hown'))
  obtain ⟨ao, n', cap, rfl⟩ : ∃ ao n' cap, v' = .slice ao n' cap := by
    rcases hown'.2 with ⟨hv, _⟩ | ⟨g, cap, cur, hv, _⟩
    · exact ⟨_, _, _, hv⟩
    · exact ⟨_, _, _, hv⟩
  generalize mkS x = X at *
  go_wp2
  go_ret2
  exact ⟨rfl, .inr HF.out⟩
set_option maxHeartbeats 1000000 in
theorem wlen_any (U : Wup) (w : World) (l : Bytes) (ys : List (Int × Int)) (h : WIs U w l ys) :
    Calls Tryz.prog 29 #[.pointer (some ⟨U.W0.heap.size, 0, none⟩)] w fun e w' => e = .returned (.int .i64 (l.length : Int)) ∧ w' = w := by
  obtain ⟨p, h⟩ := h.at_
  obtain ⟨v, a, c, hbk, hown, _⟩ := h.blk
  obtain ⟨ao, cap, rfl⟩ : ∃ ao cap, v = .slice ao l.length cap := by
    rcases hown.2 with ⟨hv, h0⟩ | ⟨g, cap, cur, hv, _⟩
    · exact ⟨none, 0, by rw [hv, h0]⟩
    · exact ⟨_, _, hv⟩
  have c1 : w.cell? ⟨U.W0.heap.size, 1, none⟩ = some (.slice ao l.length cap) := by rw [Lib.cell_of_heap hbk]; rfl
  clear h hbk hown
  generalize U.W0.heap.size = b at *
  generalize l.length = n at *
  go_enter Tryz.func29, Tryz.ntmps29
  go_wp2
  go_ret
  exact ⟨rfl, rfl⟩
theorem cellsByte6 : Tryz.prog.cellsOf TU = 1 := by kernel_rfl
set_option maxHeartbeats 1000000 in
theorem wstring_any (U : Wup) (w : World) (l : Bytes) (ys : List (Int × Int)) (h : WIs U w l ys) (h0 : l ≠ []) :
    Calls Tryz.prog 30 #[.pointer (some ⟨U.W0.heap.size, 0, none⟩)] w fun e w' => e = .returned (.string (mkS l)) ∧ Below U.W0.heap.size w w' := by
  obtain ⟨p, h⟩ := h.at_
  obtain ⟨v, a, c, hbk, hown, _⟩ := h.blk
  have hl0 : l.length ≠ 0 := by simpa using h0
  obtain ⟨g, cap, cur, rfl, hbg, hg, hnc, hcm, hcs, htake⟩ : ∃ g cap cur, v = .slice (some ⟨g, 0, none⟩) l.length cap ∧ U.W0.heap.size + 1 ≤ g ∧ w.heap[g]? = some (.cells cur TU (0, 0)) ∧ l.length ≤ cap ∧ cap ≤ maxLen ∧ cur.size = cap * 1 ∧ cur.toList.take (l.length * 1) = Lib.byteCells l := by
    rcases hown.2 with ⟨_, hz⟩ | ⟨g, cap, cur, hv, r⟩
    · exact absurd hz hl0
    · exact ⟨g, cap, cur, hv, r⟩
  have c1 : w.drew.cell? ⟨U.W0.heap.size, 1, none⟩ = some (.slice (some ⟨g, 0, none⟩) l.length cap) := by
    show w.cell? _ = _
    rw [Lib.cell_of_heap hbk]; rfl
  have hSD : (Builtin.unsafeSliceData_ #[53] 85 #[.slice (some ⟨g, 0, none⟩) l.length cap]).run Tryz.prog w.drew = .ok (.pointer (some ⟨g, 0, none⟩)) w.drew :=
    Lib.run_unsafeSliceData_row _ _ _ _ _ _ (by omega)
  have hUS : (Builtin.unsafeString_ #[85, 3] 9 #[.pointer (some ⟨g, 0, none⟩), .int .i64 l.length]).run Tryz.prog w.drew = .ok (.string ⟨l.toArray⟩) (w.drew.freeze ⟨g, 0, none⟩ l.length) := by
    refine Lib.run_unsafeString_row w.drew 85 3 9 TU Tryz.underlying85 cellsByte6 g cur.size (by have hg' : w.drew.heap[g]? = some (.cells cur TU (0, 0)) := hg; simp [World.shape?, hg']) l h0 (by omega) (by unfold maxLen at hcm; omega) ?_
    intro j x hx
    have := hown.cells (g := g) rfl j (.int .u8 x.toNat) (by simp [Lib.byteCells, hx])
    exact this
  have mixed : Tryz.prog.follows Departure.mixedOrders = true := by kernel_rfl
  clear h hbk hown htake hcs
  show Calls _ _ _ _ fun e w' => e = .returned (.string ⟨l.toArray⟩) ∧ _
  generalize hpb : U.W0.heap.size = b at *
  go_enter Tryz.func30, Tryz.ntmps30
  go_wp2
  go_region_o
  all_goals (go_wp2; go_ret; exact ⟨rfl, Lib.below_freeze (Below.drew (Below.refl b w)) (p := ⟨g, 0, none⟩) (by show b ≤ g; omega) _⟩)
end Go.Proofs.YtokmehjofboflaaGreatDoor
