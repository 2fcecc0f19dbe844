/- What link of package graphtext answers; the library's Cut, Split and TrimSuffix at a separator of one byte. -/
import Derived.Test.YtahhndhaciijpaaDoorNumG
namespace Go.Proofs.YtahhndhaciijpaaDoor
open Go.RowKit

theorem numberG_at (l : Bytes) (w : World) :
    Calls Tryd.prog 34 #[.string ⟨l.toArray⟩] w fun e w' => e = .returned (.tuple #[.int .i64 (numI l), .bool (numK l)]) ∧ Below w.heap.size w w' := by
  refine (numberG_any ⟨l.toArray⟩ w).mono ?_
  rintro e w' ⟨rfl, hb⟩
  exact ⟨rfl, hb⟩
theorem cutG_at (l : Bytes) (c : UInt8) (w : World) (hg : Gl w) (hs : l.length ≤ 1000000) :
    Calls Tryd.prog 44 #[.string ⟨l.toArray⟩, .string ⟨#[c]⟩] w fun e w' => e = .returned (.tuple #[.string ⟨(Lib.cut l [c]).1.toArray⟩, .string ⟨(Lib.cut l [c]).2.1.toArray⟩, .bool (Lib.cut l [c]).2.2]) ∧ Below w.heap.size w w' := by
  obtain ⟨m, hm⟩ := hg
  refine (Tryd.strings_Cut ⟨l.toArray⟩ ⟨#[c]⟩ m w (by simp [ByteArray.size]; omega) hm).mono ?_
  rintro e w' ⟨rfl, n, rfl⟩
  exact ⟨rfl, belDraws (Below.refl _ _) n⟩
theorem splitG_at (l : Bytes) (c : UInt8) (w : World) (hg : Gl w) (hs : l.length ≤ 1000000) :
    Calls Tryd.prog 32 #[.string ⟨l.toArray⟩, .string ⟨#[c]⟩] w fun e w' => e = .returned (.slice (some ⟨w.heap.size, 0, none⟩) (splitB c l).length (splitB c l).length) ∧ StrsAt w' (some ⟨w.heap.size, 0, none⟩) (splitB c l) ∧ Below w.heap.size w w' := by
  obtain ⟨m, hm⟩ := hg
  refine (Tryd.strings_Split ⟨l.toArray⟩ ⟨#[c]⟩ m w (by simp [ByteArray.size]; omega) hm (Nat.le_refl 1)).mono ?_
  rintro e w' ⟨rfl, rfl⟩
  have hB := Lib.splitB_data ⟨#[c]⟩ 0 (Lib.countB ⟨l.toArray⟩ ⟨#[c]⟩) ⟨l.toArray⟩
  have hE : Lib.splitK [c] 0 (Lib.count l [c]) l = splitB c l := split_lib c l.length l (Nat.le_refl _)
  have hD : (Lib.splitB ⟨#[c]⟩ 0 (Lib.countB ⟨l.toArray⟩ ⟨#[c]⟩) ⟨l.toArray⟩).map (·.data.toList) = splitB c l := hB.trans hE
  have hL : Lib.countB ⟨l.toArray⟩ ⟨#[c]⟩ + 1 = (splitB c l).length := by
    rw [← hD, List.length_map]
    exact (Lib.splitB_all ⟨#[c]⟩ (Nat.le_refl 1) 0 _ ⟨l.toArray⟩ rfl).symm
  rw [hL]
  refine ⟨rfl, .inr ⟨w.heap.size, 0, rfl, by simp, fun i hi => ?_⟩, (Below.refl _ _).alloc (Nat.le_refl _) _⟩
  rw [World.cell?_alloc_new]
  have hi2 : i < (Lib.splitB ⟨#[c]⟩ 0 (Lib.countB ⟨l.toArray⟩ ⟨#[c]⟩) ⟨l.toArray⟩).length := by rw [← hD] at hi; simpa using hi
  have e1 : wordA (splitB c l) i = ((Lib.splitB ⟨#[c]⟩ 0 (Lib.countB ⟨l.toArray⟩ ⟨#[c]⟩) ⟨l.toArray⟩)[i]).data.toList := by
    rw [← hD]
    simp [wordA, List.getD, List.getElem?_eq_getElem hi2]
  rw [e1, ← strV_self]
  simp [List.getElem?_eq_getElem hi2]
theorem trimG_at (s : ByteArray) (c : UInt8) (w : World) (hs : s.size ≤ 1000000) :
    Calls Tryd.prog 33 #[.string s, .string ⟨#[c]⟩] w fun e w' => e = .returned (.string ⟨(Lib.trimSuffix s.data.toList [c]).toArray⟩) ∧ w' = w :=
  Tryd.strings_TrimSuffix s ⟨#[c]⟩ w (by omega)

theorem results_ct {fn : Func} {p u : Tmp} {ty : TypeId} (h : fn.results = #[.cell p ty, .tmp u]) (tmps : Array Value) (P : Program) (w : World) :
    (results fn tmps).run P w =
      ((asAddr (tmps.getD p undef)).run P w).andThen fun a w₁ => ((loadVar ty a).run P w₁).andThen fun x w₂ => .ok (.tuple #[x, tmps.getD u undef]) w₂ := by
  simp only [results, h]
  simp [Sem.run_bind, Result.andThen]

def LinkSays (l : Bytes) (e : Ending) : Prop :=
  (portB l = none ∧ e = .returned (.tuple #[.agg #[.int .i64 0, .int .i64 0], .bool false])) ∨
  ∃ p : Port, portB l = some p ∧ e = .returned (.tuple #[.agg #[.int .i64 (p.1 : Int), .int .i64 (p.2 : Int)], .bool true])

set_option maxHeartbeats 2000000 in
theorem linkG_any (l : Bytes) (w : World) (hg : Gl w) (hs : l.length ≤ 1000000) :
    Calls Tryd.prog 35 #[.string ⟨l.toArray⟩] w fun e w' => LinkSays l e ∧ Below w.heap.size w w' := by
  have Hc := Lib.hid (port_cut l)
  have hcut := fun W hW => cutG_at l 47 W hW hs
  have HG := Lib.hid (hg.below ((Below.refl _ _).alloc (Nat.le_refl _) (.cells #[.int .i64 0, .int .i64 0] 41)))
  clear hg
  generalize Lib.cut l [47] = C at *
  obtain ⟨a, b, d⟩ := C
  have hn0 := fun w0 => numberG_at a w0
  have hn1 := fun w0 => numberG_at b w0
  cases hk0 : numK a with
  | false =>
    have Hn : Hid (portB l = none) := Lib.hid (by rw [Hc.out, num_off hk0])
    rw [hk0] at hn0
    cases hk1 : numK b
    all_goals
      rw [hk1] at hn1
      go_enter Tryd.func35, Tryd.ntmps35
      go_wp2_with (first | (go_at_call 44; refine (hcut _ HG.out).mono ?_; rintro e w1 ⟨rfl, hb1⟩; have r0 : w1.cell? ⟨w.heap.size, 0, none⟩ = some (.int .i64 0) := (hb1.cell (p := ⟨w.heap.size, 0, none⟩) (by simp)).trans (by simp [cell_push']); have r1 : w1.cell? ⟨w.heap.size, 1, none⟩ = some (.int .i64 0) := (hb1.cell (p := ⟨w.heap.size, 1, none⟩) (by simp)).trans (by simp [cell_push']); have q0 : w1.frozen? ⟨w.heap.size, 0, none⟩ = false := (hb1.frozen (p := ⟨w.heap.size, 0, none⟩) (by simp)).trans (by simp [free_push']); have q1 : w1.frozen? ⟨w.heap.size, 1, none⟩ = false := (hb1.frozen (p := ⟨w.heap.size, 1, none⟩) (by simp)).trans (by simp [free_push']); have B1 := Lib.hid (((Below.refl _ _).alloc (Nat.le_refl w.heap.size) (.cells #[.int .i64 0, .int .i64 0] 41)).trans (hb1.mono (by simp))); clear hb1) | (go_at_call 34; (with_reducible refine (hn0 _).mono ?_); rintro e w2 ⟨rfl, hb2⟩; have r2 := (hb2.cell (p := ⟨w.heap.size, 0, none⟩) (cell_lt r0)).trans r0; have r3 := (hb2.cell (p := ⟨w.heap.size, 1, none⟩) (cell_lt r1)).trans r1; have q2 := (hb2.frozen (p := ⟨w.heap.size, 0, none⟩) (cell_lt r0)).trans q0; have q3 := (hb2.frozen (p := ⟨w.heap.size, 1, none⟩) (cell_lt r1)).trans q1; have B2 := Lib.hid (B1.out.trans (hb2.mono B1.out.size)); clear hb2 r0 r1 q0 q1) | (go_at_call 34; (with_reducible refine (hn1 _).mono ?_); rintro e w3 ⟨rfl, hb3⟩; have r4 := (hb3.cell (p := ⟨w.heap.size, 0, none⟩) (cell_lt r2)).trans r2; have r5 := (hb3.cell (p := ⟨w.heap.size, 1, none⟩) (cell_lt r3)).trans r3; have q4 := (hb3.frozen (p := ⟨w.heap.size, 0, none⟩) (cell_lt r2)).trans q2; have q5 := (hb3.frozen (p := ⟨w.heap.size, 1, none⟩) (cell_lt r3)).trans q3; have B3 := Lib.hid (fun u0 u1 => (((B2.out.trans (hb3.mono B2.out.size)).setCell (p := ⟨w.heap.size, 0, none⟩) (Nat.le_refl _) u0).setCell (p := ⟨w.heap.size, 1, none⟩) (Nat.le_refl _) u1)); clear hb3 r2 r3 q2 q3))
      refine bodyPost_ret (v := .tuple #[.agg #[.int .i64 0, .int .i64 0], .bool false]) (by rw [results_ct rfl]; go_simp) rfl ?_
      exact ⟨.inl ⟨Hn.out, rfl⟩, B3.out _ _⟩
  | true =>
    obtain ⟨n0, ha1, ha2, ha3⟩ := num_of hk0
    rw [hk0, ha2] at hn0
    cases hk1 : numK b with
    | false =>
      have Hn : Hid (portB l = none) := Lib.hid (by rw [Hc.out, num_off hk1]; cases numB a <;> rfl)
      rw [hk1] at hn1
      clear ha1 ha2
      go_enter Tryd.func35, Tryd.ntmps35
      go_wp2_with (first | (go_at_call 44; refine (hcut _ HG.out).mono ?_; rintro e w1 ⟨rfl, hb1⟩; have r0 : w1.cell? ⟨w.heap.size, 0, none⟩ = some (.int .i64 0) := (hb1.cell (p := ⟨w.heap.size, 0, none⟩) (by simp)).trans (by simp [cell_push']); have r1 : w1.cell? ⟨w.heap.size, 1, none⟩ = some (.int .i64 0) := (hb1.cell (p := ⟨w.heap.size, 1, none⟩) (by simp)).trans (by simp [cell_push']); have q0 : w1.frozen? ⟨w.heap.size, 0, none⟩ = false := (hb1.frozen (p := ⟨w.heap.size, 0, none⟩) (by simp)).trans (by simp [free_push']); have q1 : w1.frozen? ⟨w.heap.size, 1, none⟩ = false := (hb1.frozen (p := ⟨w.heap.size, 1, none⟩) (by simp)).trans (by simp [free_push']); have B1 := Lib.hid (((Below.refl _ _).alloc (Nat.le_refl w.heap.size) (.cells #[.int .i64 0, .int .i64 0] 41)).trans (hb1.mono (by simp))); clear hb1) | (go_at_call 34; (with_reducible refine (hn0 _).mono ?_); rintro e w2 ⟨rfl, hb2⟩; have r2 := (hb2.cell (p := ⟨w.heap.size, 0, none⟩) (cell_lt r0)).trans r0; have r3 := (hb2.cell (p := ⟨w.heap.size, 1, none⟩) (cell_lt r1)).trans r1; have q2 := (hb2.frozen (p := ⟨w.heap.size, 0, none⟩) (cell_lt r0)).trans q0; have q3 := (hb2.frozen (p := ⟨w.heap.size, 1, none⟩) (cell_lt r1)).trans q1; have B2 := Lib.hid (B1.out.trans (hb2.mono B1.out.size)); clear hb2 r0 r1 q0 q1) | (go_at_call 34; (with_reducible refine (hn1 _).mono ?_); rintro e w3 ⟨rfl, hb3⟩; have r4 := (hb3.cell (p := ⟨w.heap.size, 0, none⟩) (cell_lt r2)).trans r2; have r5 := (hb3.cell (p := ⟨w.heap.size, 1, none⟩) (cell_lt r3)).trans r3; have q4 := (hb3.frozen (p := ⟨w.heap.size, 0, none⟩) (cell_lt r2)).trans q2; have q5 := (hb3.frozen (p := ⟨w.heap.size, 1, none⟩) (cell_lt r3)).trans q3; have B3 := Lib.hid (fun u0 u1 => (((B2.out.trans (hb3.mono B2.out.size)).setCell (p := ⟨w.heap.size, 0, none⟩) (Nat.le_refl _) u0).setCell (p := ⟨w.heap.size, 1, none⟩) (Nat.le_refl _) u1)); clear hb3 r2 r3 q2 q3))
      refine bodyPost_ret (v := .tuple #[.agg #[.int .i64 0, .int .i64 0], .bool false]) (by rw [results_ct rfl]; go_simp) rfl ?_
      exact ⟨.inl ⟨Hn.out, rfl⟩, B3.out _ _⟩
    | true =>
      obtain ⟨n1, hb1', hb2', hb3'⟩ := num_of hk1
      rw [hk1, hb2'] at hn1
      have Hn : Hid (portB l = some (n0, n1)) := Lib.hid (by rw [Hc.out]; simp only [ha1, hb1'])
      clear ha1 ha2 hb1' hb2'
      go_enter Tryd.func35, Tryd.ntmps35
      go_wp2_with (first | (go_at_call 44; refine (hcut _ HG.out).mono ?_; rintro e w1 ⟨rfl, hb1⟩; have r0 : w1.cell? ⟨w.heap.size, 0, none⟩ = some (.int .i64 0) := (hb1.cell (p := ⟨w.heap.size, 0, none⟩) (by simp)).trans (by simp [cell_push']); have r1 : w1.cell? ⟨w.heap.size, 1, none⟩ = some (.int .i64 0) := (hb1.cell (p := ⟨w.heap.size, 1, none⟩) (by simp)).trans (by simp [cell_push']); have q0 : w1.frozen? ⟨w.heap.size, 0, none⟩ = false := (hb1.frozen (p := ⟨w.heap.size, 0, none⟩) (by simp)).trans (by simp [free_push']); have q1 : w1.frozen? ⟨w.heap.size, 1, none⟩ = false := (hb1.frozen (p := ⟨w.heap.size, 1, none⟩) (by simp)).trans (by simp [free_push']); have B1 := Lib.hid (((Below.refl _ _).alloc (Nat.le_refl w.heap.size) (.cells #[.int .i64 0, .int .i64 0] 41)).trans (hb1.mono (by simp))); clear hb1) | (go_at_call 34; (with_reducible refine (hn0 _).mono ?_); rintro e w2 ⟨rfl, hb2⟩; have r2 := (hb2.cell (p := ⟨w.heap.size, 0, none⟩) (cell_lt r0)).trans r0; have r3 := (hb2.cell (p := ⟨w.heap.size, 1, none⟩) (cell_lt r1)).trans r1; have q2 := (hb2.frozen (p := ⟨w.heap.size, 0, none⟩) (cell_lt r0)).trans q0; have q3 := (hb2.frozen (p := ⟨w.heap.size, 1, none⟩) (cell_lt r1)).trans q1; have B2 := Lib.hid (B1.out.trans (hb2.mono B1.out.size)); clear hb2 r0 r1 q0 q1) | (go_at_call 34; (with_reducible refine (hn1 _).mono ?_); rintro e w3 ⟨rfl, hb3⟩; have r4 := (hb3.cell (p := ⟨w.heap.size, 0, none⟩) (cell_lt r2)).trans r2; have r5 := (hb3.cell (p := ⟨w.heap.size, 1, none⟩) (cell_lt r3)).trans r3; have q4 := (hb3.frozen (p := ⟨w.heap.size, 0, none⟩) (cell_lt r2)).trans q2; have q5 := (hb3.frozen (p := ⟨w.heap.size, 1, none⟩) (cell_lt r3)).trans q3; have B3 := Lib.hid (fun u0 u1 => (((B2.out.trans (hb3.mono B2.out.size)).setCell (p := ⟨w.heap.size, 0, none⟩) (Nat.le_refl _) u0).setCell (p := ⟨w.heap.size, 1, none⟩) (Nat.le_refl _) u1)); clear hb3 r2 r3 q2 q3))
      refine bodyPost_ret (v := .tuple #[.agg #[.int .i64 (n0 : Int), .int .i64 (n1 : Int)], .bool true]) (by rw [results_ct rfl]; go_simp) rfl ?_
      exact ⟨.inr ⟨(n0, n1), Hn.out, rfl⟩, B3.out _ _⟩
end Go.Proofs.YtahhndhaciijpaaDoor
