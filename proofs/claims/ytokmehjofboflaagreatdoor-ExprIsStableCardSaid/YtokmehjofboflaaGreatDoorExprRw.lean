/- The program's reader catches its own panic; Parse of package expr. -/
import Derived.Test.YtokmehjofboflaaGreatDoorExprRj
import Derived.Test.YtokmehjofboflaaGreatDoorExprParse
import Derived.Laws.Pointers
namespace Go.Proofs.YtokmehjofboflaaGreatDoor
set_option maxRecDepth 100000
open Go.RowKit

theorem tmps39 (p q r v : Value) : #[p, q, r] ++ (Array.replicate 15 undef).setIfInBounds 3 v = #[p, q, r, undef, undef, undef, v, undef, undef, undef, undef, undef, undef, undef, undef, undef, undef, undef] := rfl
set_option maxHeartbeats 1000000 in
theorem catch_idle (pa pe pr : Addr) (w : World) :
    CallsD Tryz.prog 39 #[.pointer (some pa), .pointer (some pe), .pointer (some pr)] .returning w fun e u' w' => e = .returned (.tuple #[]) ∧ u' = .returning ∧ w' = w := by
  have hnil : ∀ w : World, (binOp BinOp.eql 20 .nilIface .nilIface).run Tryz.prog w = .ok (.bool true) w := fun _ => by kernel_rfl
  refine callsD_of_wpS Tryz.func39 rfl fun c₀ cs hu => ?_
  apply wpS_seq
  apply wpS_region
  simp [wpOpsS, go_sem, recoverD, hu, Tryz.ntmps39, Exit.thenS]
  rw [tmps39]
  refine wpS_of_wp ?_
  go_wp2
  cases c₀
  simp_all [bodyPostS, results, Tryz.results39]
set_option maxHeartbeats 2000000 in
theorem catch_fault (na ne : Nat) (pr : Addr) (a b x y : Int) (w : World) (ha : w.cell? ⟨na, 0, none⟩ = some (.int .i64 x)) (hb : w.cell? ⟨ne, 0, none⟩ = some (.int .i64 y)) (fa : w.frozen? ⟨na, 0, none⟩ = false) (fe : w.frozen? ⟨ne, 0, none⟩ = false) (la : na < w.heap.size) (le : ne < w.heap.size) (hne : na ≠ ne) :
    CallsD Tryz.prog 39 #[.pointer (some ⟨na, 0, none⟩), .pointer (some ⟨ne, 0, none⟩), .pointer (some pr)] (.panicking [{ v := .iface 73 (.agg #[.int .i64 a, .int .i64 b]), recovered := false }]) w fun e u' w' => e = .returned (.tuple #[]) ∧ u' = .panicking [{ v := .iface 73 (.agg #[.int .i64 a, .int .i64 b]), recovered := true }] ∧
      ∃ w1, Below w.heap.size w w1 ∧ w' = (w1.setCell ⟨na, 0, none⟩ (.int .i64 a)).setCell ⟨ne, 0, none⟩ (.int .i64 b) := by
  have hnil : ∀ (v : Value) (w : World), (binOp BinOp.eql 20 (.iface 73 v) .nilIface).run Tryz.prog w = .ok (.bool false) w := fun _ _ => by kernel_rfl
  have hasr : ∀ (v : Value) (w : World), (Instr.typeAssert (.iface 73 v) 20 73 true).run Tryz.prog w = .ok (.tuple #[v, .bool true]) w := fun _ _ => by kernel_rfl
  refine callsD_of_wpS Tryz.func39 rfl fun c₀ cs hu => ?_
  apply wpS_seq
  apply wpS_region
  simp [wpOpsS, go_sem, recoverD, hu, Tryz.ntmps39, Exit.thenS]
  rw [tmps39]
  refine wpS_of_wp ?_
  go_wp2
  obtain ⟨W1, hW1⟩ : ∃ W1, W1 = w.alloc (.cells #[.int .i64 a, .int .i64 b] 73) := ⟨_, rfl⟩
  have hbW : Below w.heap.size w W1 := by rw [hW1]; exact below_alloc6 _ _
  have c0 : W1.cell? ⟨w.heap.size, 0, none⟩ = some (.int .i64 a) := by rw [hW1]; exact World.cell?_alloc_new w _ _ 0
  have c1 : W1.cell? ⟨w.heap.size, 1, none⟩ = some (.int .i64 b) := by rw [hW1]; exact World.cell?_alloc_new w _ _ 1
  have ka : W1.cell? ⟨na, 0, none⟩ = some (.int .i64 x) := (hbW.cell (p := ⟨na, 0, none⟩) la).trans ha
  have kb : W1.cell? ⟨ne, 0, none⟩ = some (.int .i64 y) := (hbW.cell (p := ⟨ne, 0, none⟩) le).trans hb
  have ga : W1.frozen? ⟨na, 0, none⟩ = false := (hbW.frozen (p := ⟨na, 0, none⟩) la).trans fa
  have ge : W1.frozen? ⟨ne, 0, none⟩ = false := (hbW.frozen (p := ⟨ne, 0, none⟩) le).trans fe
  have n1 : na ≠ w.heap.size := by omega
  have n2 : ne ≠ w.heap.size := by omega
  rw [← hW1]
  clear hW1 ha hb fa fe
  generalize hws : w.heap.size = ws at *
  go_region
  go_wp2
  exact ⟨rfl, _, rfl, _, results_none rfl _ _ _, rfl, rfl, W1.drew, by rw [hws]; exact hbW.drew, rfl⟩
/-- what holds of the boxes that whole makes -/
theorem box_keeps {U : Sup} {w' : World} (hg : U.W.grownBy w' (some U.W0.heap.size)) {k i : Nat} (hk : k < U.W.heap.size) (hne : k ≠ U.W0.heap.size) : w'.cell? ⟨k, i, none⟩ = U.W.cell? ⟨k, i, none⟩ ∧ w'.frozen? ⟨k, i, none⟩ = U.W.frozen? ⟨k, i, none⟩ := by
  have hb := hg.block k hk (fun e => hne (by injection e))
  exact ⟨World.cell?_of_block hb, World.frozen?_of_block hb⟩
/-- the place and the error that the reader answers -/
noncomputable def Env.told (V : Env) : Nat × Nat := if V.last.err = 0 then (0, 0) else (V.last.place, V.last.err)
set_option maxHeartbeats 4000000 in
theorem wholeQ_any (U : Sup) (hU : U.Ok) (w : World) (hw : U.W = ((w.alloc (.cells #[.pointer (some ⟨U.W0.heap.size, 0, none⟩)] 71)).alloc (.cells #[.int .i64 0] 3)).alloc (.cells #[.int .i64 0] 26)) (hlt : U.W0.heap.size < w.heap.size) (h : RAt U U.W ⟨0, 0, 0⟩ []) :
    Calls Tryz.prog 21 #[.pointer (some ⟨U.W0.heap.size, 0, none⟩)] w fun e w' => e = .returned (.tuple #[.int .i64 (U.env.told.1 : Int), .int .i64 (U.env.told.2 : Int)]) ∧ (U.env.last.err = 0 → ∃ v, w'.cell? ⟨U.W0.heap.size, 3, none⟩ = some v ∧ OwnT U.W.heap.size w' v U.env.out.1) ∧ Below U.W0.heap.size U.W0 w' := by
  have hmf : ∀ (fn : Fn) (first cap : Array Value) (w : World), (Instr.makeFunc fn first cap).run Tryz.prog w = .ok (.func fn first cap) w := fun _ _ _ _ => rfl
  have hC := choiceQ U hU ⟨0, 0, 0⟩ U.W h
  have hlast : U.env.last = if U.env.out.2.err = 0 ∧ U.env.out.2.i < U.ts.length then U.env.fail U.env.out.2 4 else U.env.out.2 := by
    unfold Env.last
    rw [show U.env.ts.length = U.ts.length from env_len _ _ _]
  change Calls Tryz.prog _ _ _ (OutR U [] U.env.out) at hC
  have hsz : U.W.heap.size = w.heap.size + 3 := by rw [hw]; simp
  have b0 : U.W.cell? ⟨w.heap.size, 0, none⟩ = some (.pointer (some ⟨U.W0.heap.size, 0, none⟩)) := by rw [hw]; simp [go_sem]
  have b1 : U.W.cell? ⟨w.heap.size + 1, 0, none⟩ = some (.int .i64 0) := by rw [hw]; simp [go_sem]
  have b2 : U.W.cell? ⟨w.heap.size + 2, 0, none⟩ = some (.int .i64 0) := by rw [hw]; simp [go_sem]
  have z1 : U.W.frozen? ⟨w.heap.size + 1, 0, none⟩ = false := by rw [hw]; simp [go_sem]
  have z2 : U.W.frozen? ⟨w.heap.size + 2, 0, none⟩ = false := by rw [hw]; simp [go_sem]
  have HK := Lib.hid (fun (W : World) (hg : U.W.grownBy W (some U.W0.heap.size)) (k : Nat) (hk : k < 3) => box_keeps (i := 0) hg (k := w.heap.size + k) (by omega) (by omega))
  have hup := h.up
  rw [hw] at hC
  by_cases g1 : U.env.out.2.err = 0
  case neg =>
    have hl : U.env.last = U.env.out.2 := by rw [hlast, if_neg (fun k => g1 k.1)]
    have ht : U.env.told = (U.env.out.2.place, U.env.out.2.err) := by unfold Env.told; rw [hl, if_neg g1]
    rw [ht, hl]
    have HC := Lib.hid (outR_bad hC g1)
    have HG := Lib.hid g1
    clear h hU hC hlast hl ht g1 hw
    generalize U.env.out.2 = s2 at *
    generalize hpb : U.W0.heap.size = pb at *
    go_enter_defers Tryz.func21, Tryz.ntmps21
    go_wp2_with (go_at_call 41; refine HC.out.mono ?_; rintro e w1 ⟨rfl, hg1, hb1⟩; rw [hpb] at hg1)
    obtain ⟨k1, f1⟩ := HK.out w1 hg1 1 (by omega)
    obtain ⟨k2, f2⟩ := HK.out w1 hg1 2 (by omega)
    have hs1 := hg1.size
    rw [hpb] at hb1
    refine leaves_cons (f := 39) (args := #[.pointer (some ⟨w.heap.size + 1, 0, none⟩), .pointer (some ⟨w.heap.size + 1 + 1, 0, none⟩), .pointer (some ⟨w.heap.size, 0, none⟩)]) (by simp) (by simp [go_sem]) ?_
    refine (catch_fault (w.heap.size + 1) (w.heap.size + 1 + 1) ⟨w.heap.size, 0, none⟩ s2.place s2.err 0 0 w1 (k1.trans b1) (k2.trans b2) (f1.trans z1) (f2.trans z2) (by omega) (by omega) (by omega)).mono ?_
    rintro e u' w'' ⟨rfl, rfl, w9, hb9, rfl⟩
    have m1 : w9.cell? ⟨w.heap.size + 1, 0, none⟩ = some (.int .i64 0) := (hb9.cell (p := ⟨_, 0, none⟩) (by show w.heap.size + 1 < _; omega)).trans (k1.trans b1)
    have m2 : w9.cell? ⟨w.heap.size + 1 + 1, 0, none⟩ = some (.int .i64 0) := (hb9.cell (p := ⟨_, 0, none⟩) (by show w.heap.size + 1 + 1 < _; omega)).trans (k2.trans b2)
    have hB := hb1.trans (hb9.mono (by omega))
    refine ⟨.tuple #[.int .i64 (s2.place : Int), .int .i64 (s2.err : Int)], ?_, rfl, fun e => absurd e HG.out, ?_⟩
    · simp [results, Tryz.results21, go_sem, m1, m2]
    · exact (hB.setCell (p := ⟨w.heap.size + 1, 0, none⟩) (by show pb ≤ w.heap.size + 1; omega) _).setCell (p := ⟨w.heap.size + 1 + 1, 0, none⟩) (by show pb ≤ w.heap.size + 1 + 1; omega) _
  have HC := Lib.hid (outR_good hC g1)
  rw [List.nil_append] at HC
  have HKb := Lib.hid (fun W (h : RAt U W U.env.out.2 U.env.out.1) => h.c1)
  by_cases g2 : U.env.out.2.i < U.ts.length
  · have hl : U.env.last = U.env.fail U.env.out.2 4 := by rw [hlast, if_pos ⟨g1, g2⟩]
    have hne := fail_err U.env U.env.out.2 (e := 4) (by decide)
    have ht : U.env.told = ((U.env.fail U.env.out.2 4).place, (U.env.fail U.env.out.2 4).err) := by unfold Env.told; rw [hl, if_neg hne]
    rw [ht, hl]
    have HG := Lib.hid hne
    have HF := Lib.hid (fun W (h : RAt U W U.env.out.2 U.env.out.1) => fail_bad6 U hU U.env.out.2 U.env.out.1 W h 4)
    obtain ⟨m, hm⟩ : ∃ m, m = U.ts.length - U.env.out.2.i := ⟨_, rfl⟩
    rw [← hm] at HKb
    have hm0 : (0 : Int) < (m : Int) := by omega
    clear h hU hC hlast hl ht g1 hw g2 hne hm
    generalize U.env.fail U.env.out.2 4 = s4 at *
    generalize U.env.out = o at *
    generalize hpb : U.W0.heap.size = pb at *
    go_enter_defers Tryz.func21, Tryz.ntmps21
    go_wp2_with (first | (go_at_call 41; refine HC.out.mono ?_; rintro e w1 ⟨rfl, R1⟩; have k0 := (HK.out w1 (by have := R1.grow; rw [hpb] at this; exact this) 0 (by omega)).1.trans b0; rw [Nat.add_zero] at k0; obtain ⟨ta, tc, t1, _, _⟩ := HKb.out _ R1) | (go_at_call 42; refine (HF.out _ R1).mono ?_; rintro e w2 ⟨rfl, hg2, hb2⟩; rw [hpb] at hg2))
    obtain ⟨k1, f1⟩ := HK.out w2 hg2 1 (by omega)
    obtain ⟨k2, f2⟩ := HK.out w2 hg2 2 (by omega)
    have hs1 := hg2.size
    rw [hpb] at hb2
    refine leaves_cons (f := 39) (args := #[.pointer (some ⟨w.heap.size + 1, 0, none⟩), .pointer (some ⟨w.heap.size + 1 + 1, 0, none⟩), .pointer (some ⟨w.heap.size, 0, none⟩)]) (by simp) (by simp [go_sem]) ?_
    refine (catch_fault (w.heap.size + 1) (w.heap.size + 1 + 1) ⟨w.heap.size, 0, none⟩ s4.place s4.err 0 0 w2 (k1.trans b1) (k2.trans b2) (f1.trans z1) (f2.trans z2) (by omega) (by omega) (by omega)).mono ?_
    rintro e u' w'' ⟨rfl, rfl, w9, hb9, rfl⟩
    have m1 : w9.cell? ⟨w.heap.size + 1, 0, none⟩ = some (.int .i64 0) := (hb9.cell (p := ⟨_, 0, none⟩) (by show w.heap.size + 1 < _; omega)).trans (k1.trans b1)
    have m2 : w9.cell? ⟨w.heap.size + 1 + 1, 0, none⟩ = some (.int .i64 0) := (hb9.cell (p := ⟨_, 0, none⟩) (by show w.heap.size + 1 + 1 < _; omega)).trans (k2.trans b2)
    have hB := hb2.trans (hb9.mono (by omega))
    refine ⟨.tuple #[.int .i64 (s4.place : Int), .int .i64 (s4.err : Int)], ?_, rfl, fun e => absurd e HG.out, ?_⟩
    · simp [results, Tryz.results21, go_sem, m1, m2]
    · exact (hB.setCell (p := ⟨w.heap.size + 1, 0, none⟩) (by show pb ≤ w.heap.size + 1; omega) _).setCell (p := ⟨w.heap.size + 1 + 1, 0, none⟩) (by show pb ≤ w.heap.size + 1 + 1; omega) _
  have hl : U.env.last = U.env.out.2 := by rw [hlast, if_neg (fun k => g2 k.2)]
  have ht : U.env.told = (0, 0) := by unfold Env.told; rw [hl, if_pos g1]
  rw [ht, hl]
  have hm : U.ts.length - U.env.out.2.i = 0 := by omega
  rw [hm] at HKb
  clear h hU hC hlast hl ht g1 hw g2 hm
  generalize U.env.out = o at *
  generalize hpb : U.W0.heap.size = pb at *
  have n0 : w.heap.size + 1 ≠ w.heap.size + 1 + 1 := by omega
  go_enter_defers Tryz.func21, Tryz.ntmps21
  go_wp2_with (go_at_call 41; refine HC.out.mono ?_; rintro e w1 ⟨rfl, R1⟩; have hgr := R1.grow; rw [hpb] at hgr; have k0 := (HK.out w1 hgr 0 (by omega)).1.trans b0; rw [Nat.add_zero] at k0; have k1 := (HK.out w1 hgr 1 (by omega)).1.trans b1; have k2 := (HK.out w1 hgr 2 (by omega)).1.trans b2; have y1 := (HK.out w1 hgr 1 (by omega)).2.trans z1; have y2 := (HK.out w1 hgr 2 (by omega)).2.trans z2; obtain ⟨ta, tc, t1, _, _⟩ := HKb.out _ R1)
  refine leaves_cons (f := 39) (args := #[.pointer (some ⟨w.heap.size + 1, 0, none⟩), .pointer (some ⟨w.heap.size + 1 + 1, 0, none⟩), .pointer (some ⟨w.heap.size, 0, none⟩)]) (by simp) (by simp [go_sem]) ?_
  refine (catch_idle ⟨w.heap.size + 1, 0, none⟩ ⟨w.heap.size + 1 + 1, 0, none⟩ ⟨w.heap.size, 0, none⟩ _).mono ?_
  rintro e u' w'' ⟨rfl, rfl, rfl⟩
  refine ⟨.tuple #[.int .i64 0, .int .i64 0], ?_, rfl, fun _ => ?_, ?_⟩
  · simp [results, Tryz.results21, go_sem, k1, k2]
  · obtain ⟨v, d1, d2⟩ := R1.c3
    rw [hpb] at d1
    exact ⟨v, (set_other (by simp)).trans ((set_other (by simp)).trans d1), ownsRow_setCell_below (ownsRow_setCell_below d2 (by show w.heap.size + 1 < _; omega) _) (by show w.heap.size + 1 + 1 < _; omega) _⟩
  · have hB := R1.bel
    rw [hpb] at hB
    exact (hB.setCell (p := ⟨w.heap.size + 1, 0, none⟩) (by show pb ≤ w.heap.size + 1; omega) _).setCell (p := ⟨w.heap.size + 1 + 1, 0, none⟩) (by show pb ≤ w.heap.size + 1 + 1; omega) _
end Go.Proofs.YtokmehjofboflaaGreatDoor
