/- one, two, three and expression of the program's writer; Format of package expr. -/
import Derived.Test.YtdbahiepihkagaaGreatDoorExprRw
import Derived.Test.YtdbahiepihkagaaGreatDoorLexB
import Derived.Test.YtdbahiepihkagaaGreatDoorExprRt
namespace Go.Proofs.YtdbahiepihkagaaGreatDoor
set_option maxRecDepth 100000
open Go.RowKit

/-- behind w1: the two results are stored in their boxes -/
def boxes2 (w1 : World) (n0 : Nat) (a b : Int) : World := (w1.setCell ⟨n0 + 1, 0, none⟩ (.int .i64 a)).setCell ⟨n0 + 1 + 1, 0, none⟩ (.int .i64 b)
/-- the box cells behind a run that leaves all but the cursor's block as it was -/
theorem Set8.kept {pb n0 : Nat} {w : World} {tx : Bytes} {ta : Option Addr} {ts : List Tok} {tc : Nat} {W w' : World} (h : Set8 pb n0 w tx ta ts tc W) (hg : W.grownBy w' (some pb)) :
    w'.cell? ⟨n0, 0, none⟩ = some (.pointer (some ⟨pb, 0, none⟩)) ∧ w'.cell? ⟨n0 + 1, 0, none⟩ = some (.int .i64 0) ∧ w'.cell? ⟨n0 + 1 + 1, 0, none⟩ = some (.int .i64 0) ∧ w'.frozen? ⟨n0 + 1, 0, none⟩ = false ∧ w'.frozen? ⟨n0 + 1 + 1, 0, none⟩ = false ∧ n0 + 3 ≤ w'.heap.size := by
  have hbig := h.big
  have hn := h.nb
  have hl := h.lt
  have hk : ∀ k, k < 3 → w'.heap[n0 + k]? = W.heap[n0 + k]? := fun k hk => hg.block _ (by omega) (fun e => by injection e with e; omega)
  exact ⟨(World.cell?_of_block (hk 0 (by omega))).trans h.k0, (World.cell?_of_block (hk 1 (by omega))).trans h.k1, (World.cell?_of_block (hk 2 (by omega))).trans h.k2, (World.frozen?_of_block (hk 1 (by omega))).trans h.z1, (World.frozen?_of_block (hk 2 (by omega))).trans h.z2, Nat.le_trans hbig hg.size⟩
/-- what is given of the struct at whose head the cursor lies -/
structure Head8 (pb : Nat) (w : World) : Prop where
  lt : pb < w.heap.size
  f0 : w.frozen? ⟨pb, 0, none⟩ = false
  f1 : w.frozen? ⟨pb, 1, none⟩ = false
  d0 : ∃ x, w.cell? ⟨pb, 0, none⟩ = some x
  d1 : ∃ x, w.cell? ⟨pb, 1, none⟩ = some x
theorem scan_own_at {s : ByteArray} {ts : List Tok} (h : scanB s.data.toList = .inr ts) (w : World) : Calls Tryz.prog 50 #[.string s] w fun e w' => (∃ a c, e = .returned (.tuple #[.slice a ts.length c, .int .i64 0, .int .i64 0]) ∧ TokAt w' a ts ∧ ts.length ≤ c ∧ ∀ b, a = some ⟨b, 0, none⟩ → w.heap.size ≤ b) ∧ Below w.heap.size w w' := by
  refine (scan_any s w).mono ?_
  rintro e w' ⟨h1, h2⟩
  rw [h] at h1
  obtain ⟨v, rfl, h3⟩ := h1
  have hlt := World.ownsRow.lt (show w'.ownsRow _ _ _ v _ _ from h3)
  obtain ⟨a, c, rfl, h4, h5⟩ := tok_own h3
  exact ⟨⟨a, c, rfl, h4, h5, fun b e => by subst e; exact (hlt b rfl).1⟩, h2⟩
section
variable (pb : Nat) (tx : Bytes) (kf : Nat) (w : World) (hH : Head8 pb w) (ts : List Tok) (hsc : scanB tx = .inr ts) (hen : ∀ (args : Array Value) (w : World), (callFunc kf args).run Tryz.prog w = .ok (.enter kf args) w)
include hH hsc hen
set_option maxHeartbeats 4000000 in
/-- the text is read to its end -/
theorem cread_ok (R : World → World → Prop)
    (hrun : ∀ ta tc W, Set8 pb w.heap.size w tx ta ts tc W → Calls Tryz.prog kf #[.pointer (some ⟨pb, 0, none⟩)] W fun e w' => e = .returned (.tuple #[]) ∧ W.grownBy w' (some pb) ∧ (∃ a c, w'.cell? ⟨pb, 1, none⟩ = some (.slice a 0 c)) ∧ R W w') :
    Calls Tryz.prog 34 #[.pointer (some ⟨pb, 0, none⟩), .string (mkS tx), .func (Fn.func kf) #[.pointer (some ⟨pb, 0, none⟩)] #[]] w fun e w' => e = .returned (.tuple #[.int .i64 0, .int .i64 0]) ∧ ∃ ta tc W w1, Set8 pb w.heap.size w tx ta ts tc W ∧ W.grownBy w1 (some pb) ∧ R W w1 ∧ w' = boxes2 w1 w.heap.size 0 0 := by
  have hmf : ∀ (fn : Fn) (first cap : Array Value) (w : World), (Instr.makeFunc fn first cap).run Tryz.prog w = .ok (.func fn first cap) w := fun _ _ _ _ => rfl
  obtain ⟨x0, hx0⟩ := hH.d0
  obtain ⟨x1, hx1⟩ := hH.d1
  have HS := Lib.hid (fun W => scan_own_at (s := mkS tx) (ts := ts) (by rw [mkS_list]; exact hsc) W)
  have HSet := Lib.hid (fun ta tc w2 => set8_of pb w tx ta ts tc w2 hH.lt hx0 hx1)
  have HR := Lib.hid hrun
  have HK := Lib.hid (fun ta tc W (w' : World) (h : Set8 pb w.heap.size w tx ta ts tc W) (hg : W.grownBy w' (some pb)) => h.kept hg)
  have HW0 := Lib.hid (show ∀ W, Below w.heap.size w W → W.cell? ⟨pb, 0, none⟩ = some x0 ∧ W.cell? ⟨pb, 1, none⟩ = some x1 ∧ W.frozen? ⟨pb, 0, none⟩ = false ∧ W.frozen? ⟨pb, 1, none⟩ = false from fun W hb => ⟨(hb.cell (p := ⟨pb, 0, none⟩) hH.lt).trans hx0, (hb.cell (p := ⟨pb, 1, none⟩) hH.lt).trans hx1, (hb.frozen (p := ⟨pb, 0, none⟩) hH.lt).trans hH.f0, (hb.frozen (p := ⟨pb, 1, none⟩) hH.lt).trans hH.f1⟩)
  have hlt := hH.lt
  have hne0 : pb ≠ w.heap.size := by omega
  have hne1 : pb ≠ w.heap.size + 1 := by omega
  have hne2 : pb ≠ w.heap.size + 1 + 1 := by omega
  have hB := Lib.hid (boxR_below w pb)
  have HBx := Lib.hid (boxes_at w pb)
  clear hH hsc hrun hx0 hx1
  generalize mkS tx = X at *
  go_enter_defers Tryz.func34, Tryz.ntmps34
  go_wp2_with (first
    | (go_at_call 50; refine (HS.out _).mono ?_; rintro e w2 ⟨⟨ta, tc, rfl, hT, hcc, hoff⟩, hb2⟩; have S8 := HSet.out ta tc w2 hb2 hT hoff hcc; obtain ⟨m0, m1, m2, mz1, mz2⟩ := HBx.out w2 hb2; obtain ⟨k0, k1, g0, g1⟩ := HW0.out w2 (hB.out.trans (hb2.mono (by simp; omega)))))
  obtain ⟨Wb, hWb⟩ : ∃ Wb, Wb = (w2.setCell ⟨w.heap.size + 1, 0, none⟩ (.int .i64 0)).setCell ⟨w.heap.size + 1 + 1, 0, none⟩ (.int .i64 0) := ⟨_, rfl⟩
  have so : ∀ (b i : Nat), b ≠ w.heap.size + 1 → b ≠ w.heap.size + 1 + 1 → Wb.cell? ⟨b, i, none⟩ = w2.cell? ⟨b, i, none⟩ := fun b i h1 h2 => by rw [hWb]; exact (set_other (by simp <;> omega)).trans (set_other (by simp <;> omega))
  have q0 := (so w.heap.size 0 (by omega) (by omega)).trans m0
  have q1 := (so pb 0 hne1 hne2).trans k0
  have q2 := (so pb 1 hne1 hne2).trans k1
  have q3 : Wb.frozen? ⟨pb, 0, none⟩ = false := by rw [hWb, World.frozen?_setCell, World.frozen?_setCell]; exact g0
  have q4 : Wb.frozen? ⟨pb, 1, none⟩ = false := by rw [hWb, World.frozen?_setCell, World.frozen?_setCell]; exact g1
  rw [← hWb] at S8 ⊢
  clear hWb so m0 m1 m2 mz1 mz2 k0 k1 g0 g1 hb2 hT
  go_region
  have S9 := S8.draws 1
  clear S8 q0 q1 q2 q3 q4
  go_wp2_with (go_at_fn kf; refine (HR.out _ _ _ S9).mono ?_; rintro e w3 ⟨rfl, hg3, ⟨a3, c3, e3⟩, hR3⟩; obtain ⟨n0, n1, n2, y1, y2, hbig⟩ := HK.out _ _ _ _ S9 hg3)
  refine leaves_cons (f := 60) (args := #[.pointer (some ⟨w.heap.size + 1, 0, none⟩), .pointer (some ⟨w.heap.size + 1 + 1, 0, none⟩), .pointer (some ⟨w.heap.size, 0, none⟩)]) (by simp) (by simp [go_sem]) ?_
  refine (catch_idle ⟨w.heap.size + 1, 0, none⟩ ⟨w.heap.size + 1 + 1, 0, none⟩ ⟨w.heap.size, 0, none⟩ _).mono ?_
  rintro e u' w'' ⟨rfl, rfl, rfl⟩
  refine ⟨.tuple #[.int .i64 0, .int .i64 0], ?_, rfl, ta, tc, _, w3, S9, hg3, hR3, rfl⟩
  have hne : w.heap.size + 1 ≠ w.heap.size + 1 + 1 := by omega
  simp [results, Tryz.results34, go_sem, n1, n2]
set_option maxHeartbeats 4000000 in
/-- what reads throws an error -/
theorem cread_bad (p0 e0 : Int)
    (hrun : ∀ ta tc W, Set8 pb w.heap.size w tx ta ts tc W → Calls Tryz.prog kf #[.pointer (some ⟨pb, 0, none⟩)] W fun e w' => e = .panicked [{ v := .iface 101 (.agg #[.int .i64 p0, .int .i64 e0]), recovered := false }] ∧ W.grownBy w' (some pb)) :
    Calls Tryz.prog 34 #[.pointer (some ⟨pb, 0, none⟩), .string (mkS tx), .func (Fn.func kf) #[.pointer (some ⟨pb, 0, none⟩)] #[]] w fun e w' => e = .returned (.tuple #[.int .i64 p0, .int .i64 e0]) ∧ w.grownBy w' (some pb) := by
  have hmf : ∀ (fn : Fn) (first cap : Array Value) (w : World), (Instr.makeFunc fn first cap).run Tryz.prog w = .ok (.func fn first cap) w := fun _ _ _ _ => rfl
  obtain ⟨x0, hx0⟩ := hH.d0
  obtain ⟨x1, hx1⟩ := hH.d1
  have HS := Lib.hid (fun W => scan_own_at (s := mkS tx) (ts := ts) (by rw [mkS_list]; exact hsc) W)
  have HSet := Lib.hid (fun ta tc w2 => set8_of pb w tx ta ts tc w2 hH.lt hx0 hx1)
  have HR := Lib.hid hrun
  have HK := Lib.hid (fun ta tc W (w' : World) (h : Set8 pb w.heap.size w tx ta ts tc W) (hg : W.grownBy w' (some pb)) => h.kept hg)
  have HW0 := Lib.hid (show ∀ W, Below w.heap.size w W → W.cell? ⟨pb, 0, none⟩ = some x0 ∧ W.cell? ⟨pb, 1, none⟩ = some x1 ∧ W.frozen? ⟨pb, 0, none⟩ = false ∧ W.frozen? ⟨pb, 1, none⟩ = false from fun W hb => ⟨(hb.cell (p := ⟨pb, 0, none⟩) hH.lt).trans hx0, (hb.cell (p := ⟨pb, 1, none⟩) hH.lt).trans hx1, (hb.frozen (p := ⟨pb, 0, none⟩) hH.lt).trans hH.f0, (hb.frozen (p := ⟨pb, 1, none⟩) hH.lt).trans hH.f1⟩)
  have hlt := hH.lt
  have hne0 : pb ≠ w.heap.size := by omega
  have hne1 : pb ≠ w.heap.size + 1 := by omega
  have hne2 : pb ≠ w.heap.size + 1 + 1 := by omega
  have hB := Lib.hid (boxR_below w pb)
  have HBx := Lib.hid (boxes_at w pb)
  clear hH hsc hrun hx0 hx1
  generalize mkS tx = X at *
  go_enter_defers Tryz.func34, Tryz.ntmps34
  go_wp2_with (first
    | (go_at_call 50; refine (HS.out _).mono ?_; rintro e w2 ⟨⟨ta, tc, rfl, hT, hcc, hoff⟩, hb2⟩; have S8 := HSet.out ta tc w2 hb2 hT hoff hcc; obtain ⟨m0, m1, m2, mz1, mz2⟩ := HBx.out w2 hb2; obtain ⟨k0, k1, g0, g1⟩ := HW0.out w2 (hB.out.trans (hb2.mono (by simp; omega)))))
  obtain ⟨Wb, hWb⟩ : ∃ Wb, Wb = (w2.setCell ⟨w.heap.size + 1, 0, none⟩ (.int .i64 0)).setCell ⟨w.heap.size + 1 + 1, 0, none⟩ (.int .i64 0) := ⟨_, rfl⟩
  have so : ∀ (b i : Nat), b ≠ w.heap.size + 1 → b ≠ w.heap.size + 1 + 1 → Wb.cell? ⟨b, i, none⟩ = w2.cell? ⟨b, i, none⟩ := fun b i h1 h2 => by rw [hWb]; exact (set_other (by simp <;> omega)).trans (set_other (by simp <;> omega))
  have q0 := (so w.heap.size 0 (by omega) (by omega)).trans m0
  have q1 := (so pb 0 hne1 hne2).trans k0
  have q2 := (so pb 1 hne1 hne2).trans k1
  have q3 : Wb.frozen? ⟨pb, 0, none⟩ = false := by rw [hWb, World.frozen?_setCell, World.frozen?_setCell]; exact g0
  have q4 : Wb.frozen? ⟨pb, 1, none⟩ = false := by rw [hWb, World.frozen?_setCell, World.frozen?_setCell]; exact g1
  rw [← hWb] at S8 ⊢
  clear hWb so m0 m1 m2 mz1 mz2 k0 k1 g0 g1 hb2 hT
  go_region
  have S9 := S8.draws 1
  clear S8 q0 q1 q2 q3 q4
  go_wp2_with (go_at_fn kf; refine (HR.out _ _ _ S9).mono ?_; rintro e w3 ⟨rfl, hg3⟩; obtain ⟨n0, n1, n2, y1, y2, hbig⟩ := HK.out _ _ _ _ S9 hg3)
  refine leaves_cons (f := 60) (args := #[.pointer (some ⟨w.heap.size + 1, 0, none⟩), .pointer (some ⟨w.heap.size + 1 + 1, 0, none⟩), .pointer (some ⟨w.heap.size, 0, none⟩)]) (by simp) (by simp [go_sem]) ?_
  refine (catch_fault (w.heap.size + 1) (w.heap.size + 1 + 1) ⟨w.heap.size, 0, none⟩ p0 e0 0 0 w3 n1 n2 y1 y2 (by omega) (by omega) (by omega)).mono ?_
  rintro e u' w'' ⟨rfl, rfl, w9, hb9, rfl⟩
  have m1 : w9.cell? ⟨w.heap.size + 1, 0, none⟩ = some (.int .i64 0) := (hb9.cell (p := ⟨_, 0, none⟩) (by show w.heap.size + 1 < _; omega)).trans n1
  have m2 : w9.cell? ⟨w.heap.size + 1 + 1, 0, none⟩ = some (.int .i64 0) := (hb9.cell (p := ⟨_, 0, none⟩) (by show w.heap.size + 1 + 1 < _; omega)).trans n2
  have hG := (S9.grow.trans hg3).trans (⟨hb9.os, hb9.tape, hb9.output, hb9.size, fun k hk _ => hb9.block k hk⟩ : w3.grownBy w9 (some pb))
  refine ⟨.tuple #[.int .i64 p0, .int .i64 e0], ?_, rfl, grown_setNew (grown_setNew hG (by omega) _) (by omega) _⟩
  simp [results, Tryz.results34, go_sem, m1, m2]
set_option maxHeartbeats 4000000 in
/-- what reads leaves tokens -/
theorem cread_left (i : Nat) (hi : i < ts.length) (hS : Scd tx ts)
    (hrun : ∀ ta tc W, Set8 pb w.heap.size w tx ta ts tc W → Calls Tryz.prog kf #[.pointer (some ⟨pb, 0, none⟩)] W fun e w' => e = .returned (.tuple #[]) ∧ W.grownBy w' (some pb) ∧ CAt pb tx ta ts w' i) :
    Calls Tryz.prog 34 #[.pointer (some ⟨pb, 0, none⟩), .string (mkS tx), .func (Fn.func kf) #[.pointer (some ⟨pb, 0, none⟩)] #[]] w fun e w' => e = .returned (.tuple #[.int .i64 ((nowT tx ts i).at_ : Int), .int .i64 4]) ∧ w.grownBy w' (some pb) := by
  have hmf : ∀ (fn : Fn) (first cap : Array Value) (w : World), (Instr.makeFunc fn first cap).run Tryz.prog w = .ok (.func fn first cap) w := fun _ _ _ _ => rfl
  obtain ⟨x0, hx0⟩ := hH.d0
  obtain ⟨x1, hx1⟩ := hH.d1
  have HS := Lib.hid (fun W => scan_own_at (s := mkS tx) (ts := ts) (by rw [mkS_list]; exact hsc) W)
  have HSet := Lib.hid (fun ta tc w2 => set8_of pb w tx ta ts tc w2 hH.lt hx0 hx1)
  have HR := Lib.hid hrun
  have HF := Lib.hid (fun ta W (h : CAt pb tx ta ts W i) => cfail_any pb tx ta ts hS i W h 4)
  have HC1 := Lib.hid (fun ta W (h : CAt pb tx ta ts W i) => h.c1)
  obtain ⟨m, hm⟩ : ∃ m, m = ts.length - i := ⟨_, rfl⟩
  rw [← hm] at HC1
  have hm0 : (0 : Int) < (m : Int) := by omega
  have HK := Lib.hid (fun ta tc W (w' : World) (h : Set8 pb w.heap.size w tx ta ts tc W) (hg : W.grownBy w' (some pb)) => h.kept hg)
  have HW0 := Lib.hid (show ∀ W, Below w.heap.size w W → W.cell? ⟨pb, 0, none⟩ = some x0 ∧ W.cell? ⟨pb, 1, none⟩ = some x1 ∧ W.frozen? ⟨pb, 0, none⟩ = false ∧ W.frozen? ⟨pb, 1, none⟩ = false from fun W hb => ⟨(hb.cell (p := ⟨pb, 0, none⟩) hH.lt).trans hx0, (hb.cell (p := ⟨pb, 1, none⟩) hH.lt).trans hx1, (hb.frozen (p := ⟨pb, 0, none⟩) hH.lt).trans hH.f0, (hb.frozen (p := ⟨pb, 1, none⟩) hH.lt).trans hH.f1⟩)
  have hlt := hH.lt
  have hne0 : pb ≠ w.heap.size := by omega
  have hne1 : pb ≠ w.heap.size + 1 := by omega
  have hne2 : pb ≠ w.heap.size + 1 + 1 := by omega
  have hB := Lib.hid (boxR_below w pb)
  have HBx := Lib.hid (boxes_at w pb)
  clear hH hsc hrun hx0 hx1 hS hi hm
  generalize mkS tx = X at *
  go_enter_defers Tryz.func34, Tryz.ntmps34
  go_wp2_with (first
    | (go_at_call 50; refine (HS.out _).mono ?_; rintro e w2 ⟨⟨ta, tc, rfl, hT, hcc, hoff⟩, hb2⟩; have S8 := HSet.out ta tc w2 hb2 hT hoff hcc; obtain ⟨m0, m1, m2, mz1, mz2⟩ := HBx.out w2 hb2; obtain ⟨k0, k1, g0, g1⟩ := HW0.out w2 (hB.out.trans (hb2.mono (by simp; omega)))))
  obtain ⟨Wb, hWb⟩ : ∃ Wb, Wb = (w2.setCell ⟨w.heap.size + 1, 0, none⟩ (.int .i64 0)).setCell ⟨w.heap.size + 1 + 1, 0, none⟩ (.int .i64 0) := ⟨_, rfl⟩
  have so : ∀ (b i : Nat), b ≠ w.heap.size + 1 → b ≠ w.heap.size + 1 + 1 → Wb.cell? ⟨b, i, none⟩ = w2.cell? ⟨b, i, none⟩ := fun b i h1 h2 => by rw [hWb]; exact (set_other (by simp <;> omega)).trans (set_other (by simp <;> omega))
  have q0 := (so w.heap.size 0 (by omega) (by omega)).trans m0
  have q1 := (so pb 0 hne1 hne2).trans k0
  have q2 := (so pb 1 hne1 hne2).trans k1
  have q3 : Wb.frozen? ⟨pb, 0, none⟩ = false := by rw [hWb, World.frozen?_setCell, World.frozen?_setCell]; exact g0
  have q4 : Wb.frozen? ⟨pb, 1, none⟩ = false := by rw [hWb, World.frozen?_setCell, World.frozen?_setCell]; exact g1
  rw [← hWb] at S8 ⊢
  clear hWb so m0 m1 m2 mz1 mz2 k0 k1 g0 g1 hb2 hT
  go_region
  have S9 := S8.draws 1
  clear S8 q0 q1 q2 q3 q4
  go_wp2_with (first | (go_at_fn kf; refine (HR.out _ _ _ S9).mono ?_; rintro e w3 ⟨rfl, hg3, hC3⟩; obtain ⟨n0, n1, n2, y1, y2, hbig⟩ := HK.out _ _ _ _ S9 hg3; obtain ⟨a3, c3, e3, _, _⟩ := HC1.out _ _ hC3) | (go_at_call 62; refine (HF.out _ _ hC3).mono ?_; rintro e w4 ⟨rfl, hb4⟩))
  have u1 : w4.cell? ⟨w.heap.size + 1, 0, none⟩ = some (.int .i64 0) := (hb4.cell (p := ⟨_, 0, none⟩) (by show w.heap.size + 1 < _; omega)).trans n1
  have u2 : w4.cell? ⟨w.heap.size + 1 + 1, 0, none⟩ = some (.int .i64 0) := (hb4.cell (p := ⟨_, 0, none⟩) (by show w.heap.size + 1 + 1 < _; omega)).trans n2
  have v1 : w4.frozen? ⟨w.heap.size + 1, 0, none⟩ = false := (hb4.frozen (p := ⟨_, 0, none⟩) (by show w.heap.size + 1 < _; omega)).trans y1
  have v2 : w4.frozen? ⟨w.heap.size + 1 + 1, 0, none⟩ = false := (hb4.frozen (p := ⟨_, 0, none⟩) (by show w.heap.size + 1 + 1 < _; omega)).trans y2
  have hs4 := hb4.size
  refine leaves_cons (f := 60) (args := #[.pointer (some ⟨w.heap.size + 1, 0, none⟩), .pointer (some ⟨w.heap.size + 1 + 1, 0, none⟩), .pointer (some ⟨w.heap.size, 0, none⟩)]) (by simp) (by simp [go_sem]) ?_
  refine (catch_fault (w.heap.size + 1) (w.heap.size + 1 + 1) ⟨w.heap.size, 0, none⟩ (nowT tx ts i).at_ 4 0 0 w4 u1 u2 v1 v2 (by omega) (by omega) (by omega)).mono ?_
  rintro e u' w'' ⟨rfl, rfl, w9, hb9, rfl⟩
  have m1 : w9.cell? ⟨w.heap.size + 1, 0, none⟩ = some (.int .i64 0) := (hb9.cell (p := ⟨_, 0, none⟩) (by show w.heap.size + 1 < _; omega)).trans u1
  have m2 : w9.cell? ⟨w.heap.size + 1 + 1, 0, none⟩ = some (.int .i64 0) := (hb9.cell (p := ⟨_, 0, none⟩) (by show w.heap.size + 1 + 1 < _; omega)).trans u2
  have hb49 := hb4.trans (hb9.mono hs4)
  have hG := (S9.grow.trans hg3).trans (⟨hb49.os, hb49.tape, hb49.output, hb49.size, fun k hk _ => hb49.block k hk⟩ : w3.grownBy w9 (some pb))
  refine ⟨.tuple #[.int .i64 ((nowT tx ts i).at_ : Int), .int .i64 4], ?_, rfl, grown_setNew (grown_setNew hG (by omega) _) (by omega) _⟩
  simp [results, Tryz.results34, go_sem, m1, m2]
end
set_option maxHeartbeats 4000000 in
/-- the text has no tokens -/
theorem cread_scan (pb : Nat) (tx : Bytes) (fv : Value) (w : World) (p f : Nat) (hsc : scanB tx = .inl (p, f)) :
    Calls Tryz.prog 34 #[.pointer (some ⟨pb, 0, none⟩), .string (mkS tx), fv] w fun e w' => e = .returned (.tuple #[.int .i64 (p : Int), .int .i64 (f : Int)]) ∧ Below w.heap.size w w' := by
  have HS := Lib.hid (fun W => scan_bad_at (s := mkS tx) (p := p) (f := f) (by rw [mkS_list]; exact hsc) W)
  have hf0 := scan_errs hsc
  have d1 : ((f : Int) == 0) = false := by simp; omega
  have d2 : ((f : Int) != 0) = true := by simp; omega
  have hB := Lib.hid (boxR_below w pb)
  have HBx := Lib.hid (boxes_at w pb)
  clear hsc hf0
  generalize mkS tx = X at *
  go_enter_defers Tryz.func34, Tryz.ntmps34
  go_wp2_with (go_at_call 50; refine (HS.out _).mono ?_; rintro e w2 ⟨rfl, hb2⟩; obtain ⟨m0, m1, m2, mz1, mz2⟩ := HBx.out w2 hb2)
  obtain ⟨Wb, hWb⟩ : ∃ Wb, Wb = (w2.setCell ⟨w.heap.size + 1, 0, none⟩ (.int .i64 (p : Int))).setCell ⟨w.heap.size + 1 + 1, 0, none⟩ (.int .i64 (f : Int)) := ⟨_, rfl⟩
  have q1 : Wb.cell? ⟨w.heap.size + 1, 0, none⟩ = some (.int .i64 (p : Int)) := by rw [hWb]; exact (set_other (by simp)).trans (set_same m1)
  have q2 : Wb.cell? ⟨w.heap.size + 1 + 1, 0, none⟩ = some (.int .i64 (f : Int)) := by rw [hWb]; exact set_same ((set_other (by simp)).trans m2)
  have q3 : Wb.frozen? ⟨w.heap.size + 1, 0, none⟩ = false := by rw [hWb, World.frozen?_setCell, World.frozen?_setCell]; exact mz1
  have q4 : Wb.frozen? ⟨w.heap.size + 1 + 1, 0, none⟩ = false := by rw [hWb, World.frozen?_setCell, World.frozen?_setCell]; exact mz2
  have hbW : Below w.heap.size w Wb := by
    rw [hWb]
    exact ((hB.out.trans (hb2.mono (by simp; omega))).setCell (p := ⟨w.heap.size + 1, 0, none⟩) (by show w.heap.size ≤ w.heap.size + 1; omega) _).setCell (p := ⟨w.heap.size + 1 + 1, 0, none⟩) (by show w.heap.size ≤ w.heap.size + 1 + 1; omega) _
  have hne : w.heap.size + 1 ≠ w.heap.size + 1 + 1 := by omega
  rw [← hWb]
  clear hWb m1 m2 mz1 mz2 hb2
  go_region
  go_wp2
  refine ⟨.tuple #[.int .i64 (p : Int), .int .i64 (f : Int)], ?_, rfl, ((hbW.setCell (p := ⟨w.heap.size + 1, 0, none⟩) (by show w.heap.size ≤ w.heap.size + 1; omega) _).setCell (p := ⟨w.heap.size + 1 + 1, 0, none⟩) (by show w.heap.size ≤ w.heap.size + 1 + 1; omega) _).drew⟩
  have e1 : ((Wb.setCell ⟨w.heap.size + 1, 0, none⟩ (.int .i64 (p : Int))).setCell ⟨w.heap.size + 1 + 1, 0, none⟩ (.int .i64 (f : Int))).drew.cell? ⟨w.heap.size + 1, 0, none⟩ = some (.int .i64 (p : Int)) := (set_other (by simp)).trans (set_same q1)
  have e2 : ((Wb.setCell ⟨w.heap.size + 1, 0, none⟩ (.int .i64 (p : Int))).setCell ⟨w.heap.size + 1 + 1, 0, none⟩ (.int .i64 (f : Int))).drew.cell? ⟨w.heap.size + 1 + 1, 0, none⟩ = some (.int .i64 (f : Int)) := set_same ((set_other (by simp)).trans q2)
  simp [results, Tryz.results34, go_sem, e1, e2]
end Go.Proofs.YtdbahiepihkagaaGreatDoor
namespace Go.Proofs.YtdbahiepihkagaaGreatDoor
set_option maxRecDepth 100000
open Go.RowKit

/-- the world behind the making of the reader's struct -/
def newR (w : World) (na : Option Addr) (n nc : Nat) : World := w.alloc (.cells #[.string ⟨#[]⟩, .slice none 0 0, .slice na n nc, .slice none 0 0] 59)
theorem newR_size (w : World) (na : Option Addr) (n nc : Nat) : (newR w na n nc).heap.size = w.heap.size + 1 := by unfold newR; simp
theorem newR_head (w : World) (na : Option Addr) (n nc : Nat) : Head8 w.heap.size (newR w na n nc) where
  lt := by rw [newR_size]; omega
  f0 := World.frozen?_alloc_new w _ _ 0
  f1 := World.frozen?_alloc_new w _ _ 1
  d0 := ⟨_, World.cell?_alloc_new w _ _ 0⟩
  d1 := ⟨_, World.cell?_alloc_new w _ _ 1⟩
def supF (w : World) (W : World) (T : Bytes) (na : Option Addr) (nc : Nat) (ns : List Bytes) (a : Option Addr) (c : Nat) (ts : List Tok) : Sup := ⟨w, W, na, nc, a, c, T, ns, ts⟩
theorem scd_of {T : Bytes} {ts : List Tok} (hs : scanB T = .inr ts) : Scd T ts := ⟨fun _ hk => ⟨Nat.le_of_lt (stands hs hk).lt, (stands hs hk).le⟩, (scan_run hs).2.1, (scan_run hs).2.2, fun _ hk => scan_num hs hk⟩
section
variable {w W : World} {na ta : Option Addr} {nc tc : Nat} {T : Bytes} {ns : List Bytes} {ts : List Tok} (hN : NamesAt w na ns) (hW : Wd w) (hg : goodF ns = true) (hs : scanB T = .inr ts) (hc : ns.length ≤ nc) (S : Set8 w.heap.size (newR w na ns.length nc).heap.size (newR w na ns.length nc) T ta ts tc W)
include hN hW hg hs hc S
theorem sup_okP : (supF w W T na nc ns ta tc ts).Ok where
  names := hN
  toks := S.toks
  off := S.off
  words := hW
  cap := hc
  lt := Nat.lt_of_lt_of_le S.lt S.grow.size
  ends := (scd_of hs).ends
  good := hg
  few := (scd_of hs).few
  short := (scd_of hs).short
  nums := (scd_of hs).nums
omit hN hW hg hs hc in
theorem set8_below : Below w.heap.size w W := (below_alloc6 w _).grown S.grow (by show w.heap.size ≤ (newR w na ns.length nc).heap.size; rw [newR_size]; omega) (fun k e => by injection e with e; omega)
omit hN hW hg hs hc in
theorem rat_new : RAt (supF w W T na nc ns ta tc ts) W ⟨0, 0, 0⟩ [] := by
  have hl : w.heap.size < W.heap.size := Nat.lt_of_lt_of_le S.lt S.grow.size
  have c2 := (S.cj 2 (by decide)).trans (World.cell?_alloc_new w _ _ 2)
  have c3 := (S.cj 3 (by decide)).trans (World.cell?_alloc_new w _ _ 3)
  have f1 := (S.fj 1).trans (World.frozen?_alloc_new w _ _ 1)
  have f3 := (S.fj 3).trans (World.frozen?_alloc_new w _ _ 3)
  refine ⟨World.grownBy.refl _ _, set8_below S, hl, rfl, S.c0, ⟨ta, tc, S.c1, S.cap, fun h => ?_⟩, c2, ⟨_, c3, OwnT.none6 _ _⟩, f1, f3, Nat.zero_le _⟩
  obtain ⟨b, hb, _⟩ := S.toks.row h
  exact ⟨b, hb, by rw [hb, Nat.zero_mul]⟩
end
set_option maxHeartbeats 1000000 in
theorem readQ_any (T : Bytes) (na : Option Addr) (nc : Nat) (ns : List Bytes) (w : World) (hN : NamesAt w na ns) (hW : Wd w) (hg : goodF ns = true) (hc : ns.length ≤ nc) (ts : List Tok) (hs : scanB T = .inr ts) :
    Calls Tryz.prog 34 #[.pointer (some ⟨w.heap.size, 0, none⟩), .string (mkS T), .func (Fn.func 35) #[.pointer (some ⟨w.heap.size, 0, none⟩)] #[]] (newR w na ns.length nc) fun e w' => e = .returned (.tuple #[.int .i64 ((envF T ts ns).told.1 : Int), .int .i64 ((envF T ts ns).told.2 : Int)]) ∧
      ((envF T ts ns).last.err = 0 → ∃ v, w'.cell? ⟨w.heap.size, 3, none⟩ = some v ∧ OwnT w.heap.size w' v (envF T ts ns).out.1) ∧ Below w.heap.size w w' := by
  have hH := newR_head w na ns.length nc
  have hsz := newR_size w na ns.length nc
  have hen : ∀ (args : Array Value) (w : World), (callFunc 35 args).run Tryz.prog w = .ok (.enter 35 args) w := fun _ _ => by kernel_rfl
  have hC : ∀ ta tc W, Set8 w.heap.size (newR w na ns.length nc).heap.size (newR w na ns.length nc) T ta ts tc W → Calls Tryz.prog 35 #[.pointer (some ⟨w.heap.size, 0, none⟩)] W (OutR (supF w W T na nc ns ta tc ts) [] (envF T ts ns).out) := fun ta tc W S =>
    choiceQ (supF w W T na nc ns ta tc ts) (sup_okP hN hW hg hs hc S) ⟨0, 0, 0⟩ W (rat_new S)
  have hlow : ∀ w', (newR w na ns.length nc).grownBy w' (some w.heap.size) → Below w.heap.size w w' := fun w' h => (below_alloc6 w _).grown h (by show w.heap.size ≤ (newR w na ns.length nc).heap.size; omega) (fun k e => by injection e with e; omega)
  have hlast : (envF T ts ns).last = if (envF T ts ns).out.2.err = 0 ∧ (envF T ts ns).out.2.i < ts.length then (envF T ts ns).fail (envF T ts ns).out.2 4 else (envF T ts ns).out.2 := by
    unfold Env.last
    rw [env_len]
  by_cases g1 : (envF T ts ns).out.2.err = 0
  case neg =>
    have hl : (envF T ts ns).last = (envF T ts ns).out.2 := by rw [hlast, if_neg (fun k => g1 k.1)]
    have ht : (envF T ts ns).told = ((envF T ts ns).out.2.place, (envF T ts ns).out.2.err) := by unfold Env.told; rw [hl, if_neg g1]
    rw [ht, hl]
    refine (cread_bad w.heap.size T _ _ hH ts hs hen ((envF T ts ns).out.2.place : Int) ((envF T ts ns).out.2.err : Int) (fun ta tc W S => (outR_bad (hC ta tc W S) g1).mono ?_)).mono ?_
    · rintro e w' ⟨h1, h2, _⟩
      exact ⟨h1, h2⟩
    · rintro e w' ⟨h1, h2⟩
      exact ⟨h1, fun k => absurd k g1, hlow w' h2⟩
  by_cases g2 : (envF T ts ns).out.2.i < ts.length
  · have hl : (envF T ts ns).last = (envF T ts ns).fail (envF T ts ns).out.2 4 := by rw [hlast, if_pos ⟨g1, g2⟩]
    have hne := fail_err (envF T ts ns) (envF T ts ns).out.2 (e := 4) (by decide)
    have ht : (envF T ts ns).told = ((nowT T ts (envF T ts ns).out.2.i).at_, 4) := by
      unfold Env.told
      rw [hl, if_neg hne, fail_good g1]
      have := now_here (U := supF w w T na nc ns na nc ts) (s := (envF T ts ns).out.2)
      exact Prod.ext this rfl
    rw [ht, hl]
    refine (cread_left w.heap.size T _ _ hH ts hs hen (envF T ts ns).out.2.i g2 (scd_of hs) (fun ta tc W S => (outR_good (hC ta tc W S) g1).mono ?_)).mono ?_
    · rintro e w' ⟨h1, h2⟩
      exact ⟨h1, h2.grow, h2.cur (sup_okP hN hW hg hs hc S)⟩
    · rintro e w' ⟨h1, h2⟩
      exact ⟨h1, fun k => absurd k hne, hlow w' h2⟩
  have hl : (envF T ts ns).last = (envF T ts ns).out.2 := by rw [hlast, if_neg (fun k => g2 k.2)]
  have ht : (envF T ts ns).told = (0, 0) := by unfold Env.told; rw [hl, if_pos g1]
  rw [ht]
  refine (cread_ok w.heap.size T _ _ hH ts hs hen (fun W w1 => ∃ v, w1.cell? ⟨w.heap.size, 3, none⟩ = some v ∧ OwnT W.heap.size w1 v (envF T ts ns).out.1) (fun ta tc W S => (outR_good (hC ta tc W S) g1).mono ?_)).mono ?_
  · rintro e w' ⟨h1, h2⟩
    obtain ⟨a, c, e1, _⟩ := h2.c1
    rw [show (supF w W T na nc ns ta tc ts).ts.length - (envF T ts ns).out.2.i = 0 from by show ts.length - _ = 0; omega] at e1
    exact ⟨h1, h2.grow, ⟨a, c, e1⟩, h2.c3⟩
  · rintro e w' ⟨h1, ta, tc, W, w1, S, hg1, ⟨v, d1, d2⟩, rfl⟩
    have hbig := S.big
    refine ⟨h1, fun _ => ⟨v, ?_, ?_⟩, hlow _ ?_⟩
    · exact (set_other (by simp <;> omega)).trans ((set_other (by simp <;> omega)).trans d1)
    · have d3 := ownsRow_setCell_below (a := ⟨(newR w na ns.length nc).heap.size + 1, 0, none⟩) d2 (by show _ + 1 < _; omega) (.int .i64 0)
      have d4 := ownsRow_setCell_below (a := ⟨(newR w na ns.length nc).heap.size + 1 + 1, 0, none⟩) d3 (by show _ + 1 + 1 < _; omega) (.int .i64 0)
      exact OwnT.base d4 (Nat.le_of_lt (Nat.lt_of_lt_of_le S.lt S.grow.size))
    · exact grown_setNew (grown_setNew (S.grow.trans hg1) (Nat.le_succ _) _) (by omega) _
set_option maxHeartbeats 4000000 in
theorem parseP_any (T : Bytes) (na : Option Addr) (nc : Nat) (ns : List Bytes) (w : World) (hN : NamesAt w na ns) (hc : ns.length ≤ nc) (hn : ns.length ≤ 10) (hT : Fits6 T ns) (hW : Wd w) :
    Calls Tryz.prog 16 #[.string (mkS T), .slice na ns.length nc] w (ParseOut (parseF T ns) w) := by
  have HG := Lib.hid (goodP_any na nc ns w hN hc (by omega))
  cases hg : goodF ns with
  | false =>
    have hp : parseF T ns = ([], 0, 7) := by unfold parseF; rw [if_pos hg]
    rw [hp]
    rw [hg] at HG
    clear hp hN hc hn hT hW
    go_enter Tryz.func16, Tryz.ntmps16
    go_wp2_with (go_at_call 33; refine HG.out.mono ?_; rintro e w1 ⟨rfl, rfl⟩)
    go_ret3
    exact parse_bad 0 7 (Below.refl _ _)
  | true =>
  rw [hg] at HG
  have hlow : ∀ w', Below (newR w na ns.length nc).heap.size (newR w na ns.length nc) w' → Below w.heap.size w w' := fun w' hb => (below_alloc6 w _).trans (hb.mono (by rw [newR_size]; omega))
  cases hs : scanB T with
  | inl x =>
    obtain ⟨p, f⟩ := x
    have hp : parseF T ns = ([], p, f) := by unfold parseF; rw [if_neg (by rw [hg]; decide), hs]
    have hf : ((f : Int) == 0) = false := by have := scan_errs hs; simp; omega
    have hf2 : ((f : Int) != 0) = true := by have := scan_errs hs; simp; omega
    have HR := Lib.hid (fun fv => cread_scan w.heap.size T fv (newR w na ns.length nc) p f hs)
    have HL := Lib.hid hlow
    rw [hp]
    clear hp hN hc hn hT hs hg hW hlow
    unfold newR at HR HL
    generalize mkS T = X at *
    go_enter Tryz.func16, Tryz.ntmps16
    go_wp2_with (first | (go_at_call 33; refine HG.out.mono ?_; rintro e w1 ⟨rfl, rfl⟩) | (go_at_call 34; refine (HR.out _).mono ?_; rintro e w2 ⟨rfl, hb2⟩))
    go_ret3
    exact parse_bad p f (HL.out _ hb2)
  | inr ts =>
  have hp : parseF T ns = (envF T ts ns).answer := by unfold parseF; rw [if_neg (by rw [hg]; decide), hs]
  have HR := Lib.hid (readQ_any T na nc ns w hN hW hg hc ts hs)
  have hfit := out_terms (ns := ns) hs (good_few hg)
  have hlen := hT ts hs
  have hns := good_few hg
  have HV : Hid (∀ (a : Option Addr) (c B : Nat) (W : World), OwnT B W (.slice a (envF T ts ns).out.1.length c) (envF T ts ns).out.1 → Calls Tryz.prog 36 #[.slice a (envF T ts ns).out.1.length c, .int .i64 (ns.length : Int)] W fun e w' => e = .returned (.bool (validE (envF T ts ns).out.1 ns.length)) ∧ Below W.heap.size W w') :=
    Lib.hid (fun a c B W h => validP_any a c _ _ W (h.links (i64_terms hfit)) (by omega) (by unfold I64; omega))
  have hans : parseF T ns = if (envF T ts ns).last.err ≠ 0 then ([], (envF T ts ns).last.place, (envF T ts ns).last.err) else if validE (envF T ts ns).out.1 ns.length = false then ([], 0, 3) else ((envF T ts ns).out.1, 0, 0) := by
    rw [hp]
    rfl
  have htold : (envF T ts ns).told = if (envF T ts ns).last.err = 0 then (0, 0) else ((envF T ts ns).last.place, (envF T ts ns).last.err) := rfl
  generalize (envF T ts ns).told = tl at *
  generalize (envF T ts ns).last = L at *
  clear hp hN hc hn hT hs hg hfit hlen hW hlow
  generalize (envF T ts ns).out = o at *
  obtain ⟨x, s⟩ := o
  dsimp only at *
  unfold newR at HR
  generalize mkS T = X at *
  by_cases he : L.err = 0
  case neg =>
    rw [if_neg he] at htold
    rw [if_pos he] at hans
    rw [hans]
    subst htold
    have d : ((L.err : Int) != 0) = true := by simp; omega
    have d2 : ((L.err : Int) == 0) = false := by simp; omega
    clear hans HV
    go_enter Tryz.func16, Tryz.ntmps16
    go_wp2_with (first
      | (go_at_call 33; refine HG.out.mono ?_; rintro e w1 ⟨rfl, rfl⟩)
      | (go_at_call 34; refine HR.out.mono ?_; rintro e w3 ⟨rfl, _, hb3⟩))
    go_ret3
    exact parse_bad _ _ hb3
  rw [if_pos he] at htold
  rw [if_neg (by simpa using he)] at hans
  subst htold
  cases hv : validE x ns.length with
  | false =>
    rw [if_pos hv] at hans
    rw [hans]
    rw [hv] at HV
    clear hans
    go_enter Tryz.func16, Tryz.ntmps16
    go_wp2_with (first
      | (go_at_call 33; refine HG.out.mono ?_; rintro e w1 ⟨rfl, rfl⟩)
      | (go_at_call 34; refine HR.out.mono ?_; rintro e w3 ⟨rfl, hr, hb3⟩; obtain ⟨v, d1, d2⟩ := hr he; obtain ⟨va, vc, rfl, _, _⟩ := d2.shape)
      | (go_at_call 36; refine (HV.out _ _ _ _ d2).mono ?_; rintro e w4 ⟨rfl, hb4⟩))
    go_ret3
    exact parse_bad 0 3 (hb3.trans (hb4.mono hb3.size))
  | true =>
    rw [if_neg (by rw [hv]; decide)] at hans
    rw [hans]
    rw [hv] at HV
    clear hans
    go_enter Tryz.func16, Tryz.ntmps16
    go_wp2_with (first
      | (go_at_call 33; refine HG.out.mono ?_; rintro e w1 ⟨rfl, rfl⟩)
      | (go_at_call 34; refine HR.out.mono ?_; rintro e w3 ⟨rfl, hr, hb3⟩; obtain ⟨v, d1, d2⟩ := hr he; obtain ⟨va, vc, rfl, _, _⟩ := d2.shape)
      | (go_at_call 36; refine (HV.out _ _ _ _ d2).mono ?_; rintro e w4 ⟨rfl, hb4⟩; have d4 := (hb4.cell (p := ⟨_, 3, none⟩) (cell_lt d1)).trans d1))
    go_ret3
    exact ⟨⟨va, vc, rfl, d2.far hb4⟩, hb3.trans (hb4.mono hb3.size)⟩
end Go.Proofs.YtdbahiepihkagaaGreatDoor
namespace Go.Proofs.YtdbahiepihkagaaGreatDoor
set_option maxRecDepth 100000
open Go.RowKit

theorem word_short (k : Nat) (hk : k < 44) : (wordF (k : Int)).length ≤ 8 := by
  have : ∀ j : Nat, j < 44 → (wordF (j : Int)).length ≤ 8 := by decide
  exact this k hk
theorem ret_wrote {U : Wup} {l l' : Bytes} {ys : List (Int × Int)} {w : World} (h : WIs U w l ys) (e : l = l') : Wrote U l' ys (.returned (.tuple #[])) w := by
  subst e
  exact ⟨rfl, h⟩
set_option maxHeartbeats 2000000 in
theorem oneW (U : Wup) (hU : U.Ok) (t : Int × Int) (a : Ex) (hw : arF t.1 = 1) (hE : EX U a) (hB : BR U a) (hT : (a.text U.ns).length ≤ 28 * a.flat.length) (w : World) (l : Bytes) (ys : List (Int × Int)) (h : WIs U w l (a.flat ++ ys)) (hl : l.length + 20 + 40 * (a.flat ++ ys).length ≤ 500000) :
    Calls Tryz.prog 87 #[.pointer (some ⟨U.W0.heap.size, 0, none⟩), .int .i64 t.1] w (Wrote U (l ++ (Ex.un t a).text U.ns) ys) := by
  have hr := ar_un hw
  obtain ⟨op, arg⟩ := t
  dsimp only at hr ⊢
  obtain ⟨k, rfl⟩ : ∃ k : Nat, op = (k : Int) := ⟨op.toNat, by omega⟩
  have hcw := (h.words hU).at_ k (by omega)
  have r0 : (0 : Int) ≤ (k : Int) := by omega
  have r1 : (k : Int) < 43 := by omega
  have hwl := word_short k (by omega)
  have HS := Lib.hid (fun W (hW : WIs U W l (a.flat ++ ys)) => wstr_any U W l (a.flat ++ ys) hW (wordF (k : Int)) (by omega) (mkS (wordF (k : Int))) rfl)
  have HI1 := Lib.hid (fun m => h.far (belDraws (Below.refl _ _) m))
  have hlv := fun W => levelP_any (k : Int) W
  have hl2 : (l ++ wordF (k : Int)).length + 1 + 40 * (a.flat ++ ys).length ≤ 500000 := by
    rw [List.length_append]
    omega
  unfold Ex.text
  dsimp only
  by_cases hn : (k : Int) = 18 ∨ (k : Int) = 19
  · rw [if_pos hn]
    have hk7 : lvF (k : Int) = 7 := by rcases hn with e | e <;> (rw [e]; rfl)
    rw [hk7] at hlv
    have HE := Lib.hid (fun W (hW : WIs U W (l ++ wordF (k : Int)) (a.flat ++ ys)) => hE 6 W _ ys 6 rfl (by omega) hW (by omega))
    clear hE hB hU hw hn hk7 hT hl hl2 hwl
    generalize mkS (wordF (k : Int)) = Y at *
    generalize wordF (k : Int) = y at *
    generalize a.flat ++ ys = zs at *
    generalize hpb : U.W0.heap.size = pb at *
    unfold Wrote at HE
    go_enter Tryz.func87, Tryz.ntmps87
    go_wp2
    go_region_with (go_at_call 95; refine (HS.out _ (by first | exact h | exact HI1.out _)).mono ?_; rintro e w3 ⟨rfl, hI3⟩)
    all_goals (go_wp2_with (first | (go_at_call 83; refine (hlv _).mono ?_; rintro e w4 ⟨rfl, rfl⟩) | (go_at_call 41; refine (HE.out _ hI3).mono ?_; rintro e w5 ⟨rfl, hI5⟩)); go_end0; exact ret_wrote hI5 (by simp))
  · rw [if_neg hn]
    have hk7 : lvF (k : Int) = 8 := by
      unfold lvF
      rw [if_neg (by omega), if_neg (by omega), if_neg (by omega), if_neg (by omega), if_neg (by omega), if_neg (by omega), if_neg hn]
    rw [hk7] at hlv
    have HE := Lib.hid (fun W (hW : WIs U W (l ++ wordF (k : Int)) (a.flat ++ ys)) => hB W _ ys hW hl2 hT)
    clear hE hB hU hw hn hk7 hT hl hl2 hwl
    generalize mkS (wordF (k : Int)) = Y at *
    generalize wordF (k : Int) = y at *
    generalize a.flat ++ ys = zs at *
    generalize hpb : U.W0.heap.size = pb at *
    unfold Wrote at HE
    go_enter Tryz.func87, Tryz.ntmps87
    go_wp2
    go_region_with (go_at_call 95; refine (HS.out _ (by first | exact h | exact HI1.out _)).mono ?_; rintro e w3 ⟨rfl, hI3⟩)
    all_goals (go_wp2_with (first | (go_at_call 83; refine (hlv _).mono ?_; rintro e w4 ⟨rfl, rfl⟩) | (go_at_call 84; refine (HE.out _ hI3).mono ?_; rintro e w5 ⟨rfl, hI5⟩)); go_end0; exact ret_wrote hI5 (by simp))
set_option maxHeartbeats 2000000 in
theorem twoW (U : Wup) (hU : U.Ok) (t : Int × Int) (a b : Ex) (hw : arF t.1 = 2) (hA : EX U a) (hB : EX U b) (hTa : (a.text U.ns).length ≤ 28 * a.flat.length) (ha0 : 0 < a.flat.length) (w : World) (l : Bytes) (ys : List (Int × Int)) (h : WIs U w l ((a.flat ++ b.flat) ++ ys)) (hl : l.length + 20 + 40 * ((a.flat ++ b.flat) ++ ys).length ≤ 500000) :
    Calls Tryz.prog 88 #[.pointer (some ⟨U.W0.heap.size, 0, none⟩), .int .i64 t.1] w (Wrote U (l ++ (Ex.bi t a b).text U.ns) ys) := by
  have hr := ar_bi hw
  obtain ⟨op, arg⟩ := t
  dsimp only at hr ⊢
  obtain ⟨k, rfl⟩ : ∃ k : Nat, op = (k : Int) := ⟨op.toNat, by omega⟩
  rw [List.append_assoc] at h hl
  have r0 : (0 : Int) ≤ (k : Int) := by omega
  have r1 : (k : Int) < 43 := by omega
  have hwl := word_short k (by omega)
  have hlv := fun W => levelP_any (k : Int) W
  obtain ⟨m, hm⟩ : ∃ m, m = lvF (k : Int) := ⟨_, rfl⟩
  have hm2 : 2 ≤ m ∧ m ≤ 6 := by
    rw [hm]
    unfold lvF
    repeat' split
    all_goals omega
  unfold Ex.text
  dsimp only
  rw [← hm] at hlv ⊢
  have hsum : a.flat.length + (b.flat.length + ys.length) = (a.flat ++ (b.flat ++ ys)).length := by simp
  have hadd1 : ∀ W, (Op.stringOp .add ⟨#[32]⟩ (mkS (wordF (k : Int)))).run Tryz.prog W = .ok (.string (mkS (32 :: wordF (k : Int)))) W := fun W => mkS_add [32] _ (by simp) (by omega) W
  have hadd2 : ∀ W, (Op.stringOp .add (mkS (32 :: wordF (k : Int))) ⟨#[32]⟩).run Tryz.prog W = .ok (.string (mkS (32 :: wordF (k : Int) ++ [32]))) W := fun W => mkS_add (32 :: wordF (k : Int)) [32] (by rw [List.length_cons]; omega) (by simp) W
  have HW := Lib.hid (fun W (L : Bytes) (zs : List (Int × Int)) (hW : WIs U W L zs) => (hW.words hU).at_ k (by omega))
  obtain ⟨lo, hlo⟩ : ∃ lo, lo = (if m = 4 then 4 else m - 1) := ⟨_, rfl⟩
  have htext : (if m = 4 then brk 5 a.lv (a.text U.ns) ++ 32 :: (wordF (k : Int) ++ 32 :: brk 5 b.lv (b.text U.ns)) else brk m a.lv (a.text U.ns) ++ 32 :: (wordF (k : Int) ++ 32 :: brk (m + 1) b.lv (b.text U.ns))) = brk (lo + 1) a.lv (a.text U.ns) ++ 32 :: (wordF (k : Int) ++ 32 :: brk (m + 1) b.lv (b.text U.ns)) := by
    by_cases h4 : m = 4
    · rw [if_pos h4, hlo, if_pos h4, h4]
    · rw [if_neg h4, hlo, if_neg h4, show m - 1 + 1 = m by omega]
  rw [htext]
  have hbl := brk_short (lo + 1) a.lv (a.text U.ns)
  have HE1 := Lib.hid (fun W (z : Int) (hz : z = (lo : Int)) (hW : WIs U W l (a.flat ++ (b.flat ++ ys))) => hA lo W l (b.flat ++ ys) z hz (by rw [hlo]; split <;> omega) hW (by omega))
  obtain ⟨L1, hL1⟩ : ∃ L1, L1 = l ++ brk (lo + 1) a.lv (a.text U.ns) := ⟨_, rfl⟩
  have hL1l : L1.length + 20 + 40 * (b.flat ++ ys).length ≤ 500000 := by
    rw [hL1, List.length_append]
    rw [← hsum] at hl
    rw [List.length_append]
    omega
  rw [← hL1] at HE1
  have HS := Lib.hid (fun W (hW : WIs U W L1 (b.flat ++ ys)) => wstr_any U W L1 (b.flat ++ ys) hW (32 :: wordF (k : Int) ++ [32]) (by simp; omega) (mkS (32 :: wordF (k : Int) ++ [32])) rfl)
  have HE2 := Lib.hid (fun W (z : Int) (hz : z = (m : Int)) (hW : WIs U W (L1 ++ (32 :: wordF (k : Int) ++ [32])) (b.flat ++ ys)) => hB m W _ ys z hz (by omega) hW (by simp; rw [List.length_append] at hL1l; omega))
  have HF : Hid ((L1 ++ (32 :: wordF (k : Int) ++ [32])) ++ brk (m + 1) b.lv (b.text U.ns) = l ++ (brk (lo + 1) a.lv (a.text U.ns) ++ 32 :: (wordF (k : Int) ++ 32 :: brk (m + 1) b.lv (b.text U.ns)))) := Lib.hid (by rw [hL1]; simp)
  have HP := Lib.hid h
  clear hA hB hU hw hTa hl hL1l hL1 htext hbl hm hwl hsum h ha0
  generalize mkS (32 :: wordF (k : Int) ++ [32]) = Z at *
  generalize mkS (32 :: wordF (k : Int)) = Y2 at *
  generalize 32 :: wordF (k : Int) ++ [32] = y3 at *
  generalize l ++ (brk (lo + 1) a.lv (a.text U.ns) ++ 32 :: (wordF (k : Int) ++ 32 :: brk (m + 1) b.lv (b.text U.ns))) = R at *
  generalize mkS (wordF (k : Int)) = Y at *
  generalize a.flat ++ (b.flat ++ ys) = zs at *
  generalize b.flat ++ ys = us at *
  generalize brk (m + 1) b.lv (b.text U.ns) = T2 at *
  generalize hpb : U.W0.heap.size = pb at *
  unfold Wrote at HE1 HE2
  by_cases h4 : m = 4
  · subst h4
    rw [if_pos rfl] at hlo
    subst hlo
    go_enter Tryz.func88, Tryz.ntmps88
    go_wp2_with (first | (go_at_call 83; refine (hlv _).mono ?_; rintro e w4 ⟨rfl, rfl⟩) | (go_at_call 41; refine (HE1.out _ _ (by omega) HP.out).mono ?_; rintro e w5 ⟨rfl, hI5⟩; have hcw := HW.out _ _ _ hI5; have HI5 := Lib.hid (fun m => hI5.far (belDraws (Below.refl _ _) m))))
    go_region_with (go_at_call 95; refine (HS.out _ (by first | exact hI5 | exact HI5.out _)).mono ?_; rintro e w3 ⟨rfl, hI3⟩)
    all_goals (go_wp2_with (go_at_call 41; refine (HE2.out _ _ (by omega) hI3).mono ?_; rintro e w6 ⟨rfl, hI6⟩); go_end0; exact ret_wrote hI6 HF.out)
  · rw [if_neg h4] at hlo
    have d4 : (((m : Int) - 1) == 3) = false := by simp; omega
    go_enter Tryz.func88, Tryz.ntmps88
    go_wp2_with (first | (go_at_call 83; refine (hlv _).mono ?_; rintro e w4 ⟨rfl, rfl⟩) | (go_at_call 41; refine (HE1.out _ _ (by omega) HP.out).mono ?_; rintro e w5 ⟨rfl, hI5⟩; have hcw := HW.out _ _ _ hI5; have HI5 := Lib.hid (fun m => hI5.far (belDraws (Below.refl _ _) m))))
    go_region_with (go_at_call 95; refine (HS.out _ (by first | exact hI5 | exact HI5.out _)).mono ?_; rintro e w3 ⟨rfl, hI3⟩)
    all_goals (go_wp2_with (go_at_call 41; refine (HE2.out _ _ (by omega) hI3).mono ?_; rintro e w6 ⟨rfl, hI6⟩); go_end0; exact ret_wrote hI6 HF.out)
end Go.Proofs.YtdbahiepihkagaaGreatDoor
