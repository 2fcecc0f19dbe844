/- What Scan of both sides answers. -/
import Derived.Test.YtokmehjofboflaaGreatDoorLexV
namespace Go.Proofs.YtokmehjofboflaaGreatDoor
set_option maxRecDepth 100000
open Go.RowKit

theorem cell_push' (w : World) (c : Array Value) (t : TypeId) (b i : Nat) : (w.alloc (.cells c t)).cell? ⟨b, i, none⟩ = if b = w.heap.size then c[i]? else w.cell? ⟨b, i, none⟩ := by
  split
  · rename_i h; rw [h]; exact World.cell?_alloc_new w c t i
  · rename_i h; exact World.cell?_alloc_old w _ _ h
theorem free_push' (w : World) (c : Array Value) (t : TypeId) (b i : Nat) : (w.alloc (.cells c t)).frozen? ⟨b, i, none⟩ = if b = w.heap.size then false else w.frozen? ⟨b, i, none⟩ := by
  split
  · rename_i h; rw [h]; exact World.frozen?_alloc_new w c t i
  · rename_i h; exact World.frozen?_alloc_old w _ _ h
theorem results_ct {fn : Func} {p u : Tmp} {ty : TypeId} (h : fn.results = #[.cell p ty, .tmp u]) (tmps : Array Value) (P : Program) (w : World) :
    (results fn tmps).run P w =
      ((asAddr (tmps.getD p undef)).run P w).andThen fun a w₁ => ((loadVar ty a).run P w₁).andThen fun x w₂ => .ok (.tuple #[x, tmps.getD u undef]) w₂ := by
  simp only [results, h]
  simp [Sem.run_bind, Result.andThen]

def tokV (k a e n : Int) : Value := .agg #[.int .i64 k, .int .i64 a, .int .i64 e, .int .i64 n]
/-- what token answers at place i -/
def TokSays (s : ByteArray) (i : Nat) (e : Ending) : Prop :=
  (∃ f : Nat, tokF (s.data.toList.drop i) = .inl f ∧ e = .returned (.tuple #[tokV 0 0 0 0, .int .i64 (f : Int)])) ∨
  (∃ t : Tk, tokF (s.data.toList.drop i) = .inr t ∧ e = .returned (.tuple #[tokV t.kind i ((i + t.len : Nat) : Int) t.num, .int .i64 0]))
theorem tok_word {s : ByteArray} {i : Nat} (h : i < s.size) (hl : isLet s[i] = true) : tokF (s.data.toList.drop i) = if 24 < runAt isIn s i - i then .inl 5 else .inr ⟨1, runAt isIn s i - i, 0⟩ := by
  unfold runAt
  rw [Nat.add_sub_cancel_left, drop_at s h]
  unfold tokF
  dsimp only
  rw [if_pos hl]
theorem tok_num {s : ByteArray} {i : Nat} (h : i < s.size) (hl : isLet s[i] = false) (hd : isDgt s[i] = true) : tokF (s.data.toList.drop i) = if badF ((s.data.toList.drop i).take (runAt isDgt s i - i)) then .inl 2 else .inr ⟨2, runAt isDgt s i - i, valF ((s.data.toList.drop i).take (runAt isDgt s i - i))⟩ := by
  unfold runAt
  rw [Nat.add_sub_cancel_left, drop_at s h]
  have h1 : runF isDgt (s[i] :: s.data.toList.drop (i + 1)) = runF isDgt (s.data.toList.drop (i + 1)) + 1 := by rw [runF, if_pos hd]
  have h2 := run_le isDgt (s.data.toList.drop (i + 1))
  have e : badF ((s[i] :: s.data.toList.drop (i + 1)).take (runF isDgt (s[i] :: s.data.toList.drop (i + 1)))) = ((s[i] == 48 && decide (1 < runF isDgt (s[i] :: s.data.toList.drop (i + 1)))) || decide (1073741824 < valF ((s[i] :: s.data.toList.drop (i + 1)).take (runF isDgt (s[i] :: s.data.toList.drop (i + 1)))))) := by
    unfold badF
    congr 2
    · rw [h1, List.take_succ_cons]
      rfl
    · rw [h1, List.take_succ_cons, List.length_cons, List.length_take, Nat.min_eq_left h2]
  rw [e]
  unfold tokF
  dsimp only
  rw [if_neg (by simp [hl]), if_pos hd]
theorem tok_sign {s : ByteArray} {i : Nat} (h : i < s.size) (hl : isLet s[i] = false) (hd : isDgt s[i] = false) : tokF (s.data.toList.drop i) = if signF (s.data.toList.drop i) = 0 then .inl 4 else .inr ⟨3, signF (s.data.toList.drop i), 0⟩ := by
  rw [drop_at s h]
  unfold tokF
  dsimp only
  rw [if_neg (by simp [hl]), if_neg (by simp [hd])]

set_option maxHeartbeats 2000000 in
theorem tokenW_any (s : ByteArray) (i : Nat) (w : World) (hs : s.size ≤ 1000000) (hi : i < s.size) (hl : isLet s[i] = true) :
    Calls Tryz.prog 38 #[.string s, .int .i64 (i : Int)] w fun e w' => TokSays s i e ∧ Below w.heap.size w w' := by
  have hlet := fun w => letter_any s[i] w
  rw [hl] at hlet
  have hbeh := fun w => behind_in s i w hs (by omega)
  have HT := Lib.hid (tok_word hi hl)
  obtain ⟨hE1, hE2⟩ := runAt_le isIn s (i := i) (by omega)
  generalize runAt isIn s i = E at *
  by_cases h24 : 24 < E - i
  · have HT2 := Lib.hid (HT.out.trans (if_pos h24))
    have h1 : 24 < (E : Int) - i := by omega
    clear HT hl
    go_enter Tryz.func38, Tryz.ntmps38
    go_wp2_with (first | (go_at_call 73; refine (hlet _).mono ?_; rintro e w1 ⟨rfl, rfl⟩) | (go_at_call 74; refine (hbeh _).mono ?_; rintro e w1 ⟨rfl, rfl⟩))
    refine bodyPost_ret (v := .tuple #[tokV 0 0 0 0, .int .i64 5]) (by rw [results_ct rfl]; go_simp; rfl) rfl ?_
    refine ⟨.inl ⟨5, HT2.out, rfl⟩, ?_⟩
    exact ((Below.refl _ _).alloc (Nat.le_refl _) _).alloc (by simp) _
  · have HT2 := Lib.hid (HT.out.trans (if_neg h24))
    have h1 : ¬ 24 < (E : Int) - i := by omega
    clear HT hl
    go_enter Tryz.func38, Tryz.ntmps38
    go_wp2_with (first | (go_at_call 73; refine (hlet _).mono ?_; rintro e w1 ⟨rfl, rfl⟩) | (go_at_call 74; refine (hbeh _).mono ?_; rintro e w1 ⟨rfl, rfl⟩))
    refine bodyPost_ret (v := .tuple #[tokV 1 i E 0, .int .i64 0]) (by rw [results_ct rfl]; go_simp; rfl) rfl ?_
    refine ⟨.inr ⟨_, HT2.out, by show _ = Ending.returned (.tuple #[tokV 1 i ((i + (E - i) : Nat) : Int) 0, .int .i64 0]); rw [show i + (E - i) = E by omega]⟩, ?_⟩
    exact ((Below.refl _ _).alloc (Nat.le_refl _) _).alloc (by simp) _

theorem run_digits {s : ByteArray} {i : Nat} : ∀ b ∈ (s.data.toList.drop i).take (runAt isDgt s i - i), isDgt b = true := by
  unfold runAt
  rw [Nat.add_sub_cancel_left]
  exact run_all isDgt _
theorem bad_head {s : ByteArray} {i n : Nat} (h : i < s.size) (h0 : 0 < n) (hn : n ≤ s.size - i) : badF ((s.data.toList.drop i).take n) = ((s[i] == 48 && decide (1 < n)) || decide (1073741824 < valF ((s.data.toList.drop i).take n))) := by
  unfold badF
  congr 2
  · rw [drop_at s h]
    obtain ⟨m, rfl⟩ : ∃ k, n = k + 1 := ⟨n - 1, by omega⟩
    rw [List.take_succ_cons]
    rfl
  · simp
    omega
theorem cap_gt (l : Bytes) : (1073741824 < capF l) = (1073741824 < valF l) := by
  unfold capF
  apply propext
  omega
theorem cap_le {l : Bytes} (h : ¬ 1073741824 < valF l) : capF l = valF l := by
  unfold capF
  omega
theorem run_pos {p : UInt8 → Bool} {s : ByteArray} {i : Nat} (h : i < s.size) (hp : p s[i] = true) : i < runAt p s i := by
  rw [run_yes h hp]
  have := runAt_le p s (i := i + 1) (by omega)
  omega

set_option maxHeartbeats 4000000 in
theorem tokenN_any (s : ByteArray) (i : Nat) (w : World) (hs : s.size ≤ 1000000) (hi : i < s.size) (hl : isLet s[i] = false) (hd : isDgt s[i] = true) :
    Calls Tryz.prog 38 #[.string s, .int .i64 (i : Int)] w fun e w' => TokSays s i e ∧ Below w.heap.size w w' := by
  have hlet := fun w => letter_any s[i] w
  have hdig := fun w => digit_any s[i] w
  rw [hl] at hlet
  rw [hd] at hdig
  have hbeh := fun w => behind_dg s i w hs (by omega)
  have HT := Lib.hid (tok_num hi hl hd)
  have hpos := run_pos hi hd
  obtain ⟨hE1, hE2⟩ := runAt_le isDgt s (i := i) (by omega)
  have hdg := run_digits (s := s) (i := i)
  generalize runAt isDgt s i = E at *
  have hval := fun w => value_any (s.extract i E) w (by
    rw [ByteArray.data_extract, Array.toList_extract]
    exact hdg)
  have hbad := bad_head hi (n := E - i) (by omega) (by omega)
  have e48 : ((s[i].toNat : Int) == 48) = (s[i] == 48) := byte_eq s[i] 48 (by decide)
  have hL : (s.extract i E).data.toList = (s.data.toList.drop i).take (E - i) := by rw [ByteArray.data_extract, Array.toList_extract]
  rw [hL] at hval
  clear hL hdg
  have HG := Lib.hid (cap_gt ((s.data.toList.drop i).take (E - i)))
  have HC := Lib.hid (@cap_le ((s.data.toList.drop i).take (E - i)))
  have hcl : capF ((s.data.toList.drop i).take (E - i)) ≤ 1073741825 := Nat.min_le_right _ _
  rw [hbad] at HT
  clear hbad
  generalize capF ((s.data.toList.drop i).take (E - i)) = C at *
  generalize valF ((s.data.toList.drop i).take (E - i)) = V at *
  have hie : (i : Int) ≤ E := by omega
  have hes : (E : Int) ≤ s.size := by omega
  clear hl hd
  by_cases h1 : 1 < E - i
  · have x1 : 1 < (E : Int) - i := by omega
    cases hz : s[i] == 48
    · by_cases h2 : 1073741824 < V
      · have HT2 := Lib.hid (HT.out.trans (if_pos (by simp [h2])))
        have x2 : 1073741824 < (C : Int) := by have := HG.out; rw [← this] at h2; omega
        rw [hz] at e48
        clear HT HG HC h2 hz
        go_enter Tryz.func38, Tryz.ntmps38
        go_wp2_with (first | (go_at_call 73; refine (hlet _).mono ?_; rintro e w1 ⟨rfl, rfl⟩) | (go_at_call 80; refine (hdig _).mono ?_; rintro e w1 ⟨rfl, rfl⟩) | (go_at_call 74; refine (hbeh _).mono ?_; rintro e w1 ⟨rfl, rfl⟩) | (go_at_call 81; refine (hval _).mono ?_; rintro e w1 ⟨rfl, hb1⟩; have r0 : w1.cell? ⟨w.heap.size, 0, none⟩ = some (.int .i64 0) := (hb1.cell (p := ⟨w.heap.size, 0, none⟩) (by simp; omega)).trans (by simp [cell_push']); have r1 : w1.cell? ⟨w.heap.size, 1, none⟩ = some (.int .i64 0) := (hb1.cell (p := ⟨w.heap.size, 1, none⟩) (by simp; omega)).trans (by simp [cell_push']); have r2 : w1.cell? ⟨w.heap.size, 2, none⟩ = some (.int .i64 0) := (hb1.cell (p := ⟨w.heap.size, 2, none⟩) (by simp; omega)).trans (by simp [cell_push']); have r3 : w1.cell? ⟨w.heap.size, 3, none⟩ = some (.int .i64 0) := (hb1.cell (p := ⟨w.heap.size, 3, none⟩) (by simp; omega)).trans (by simp [cell_push']); have t0 : w1.cell? ⟨w.heap.size + 1, 0, none⟩ = some (.int .i64 2) := (hb1.cell (p := ⟨w.heap.size + 1, 0, none⟩) (by simp)).trans (by simp [cell_push']); have t1 : w1.cell? ⟨w.heap.size + 1, 1, none⟩ = some (.int .i64 i) := (hb1.cell (p := ⟨w.heap.size + 1, 1, none⟩) (by simp)).trans (by simp [cell_push']); have t2 : w1.cell? ⟨w.heap.size + 1, 2, none⟩ = some (.int .i64 E) := (hb1.cell (p := ⟨w.heap.size + 1, 2, none⟩) (by simp)).trans (by simp [cell_push']); have t3 : w1.cell? ⟨w.heap.size + 1, 3, none⟩ = some (.int .i64 0) := (hb1.cell (p := ⟨w.heap.size + 1, 3, none⟩) (by simp)).trans (by simp [cell_push']); have q0 : w1.frozen? ⟨w.heap.size, 0, none⟩ = false := (hb1.frozen (p := ⟨w.heap.size, 0, none⟩) (by simp; omega)).trans (by simp [free_push']); have q1 : w1.frozen? ⟨w.heap.size, 1, none⟩ = false := (hb1.frozen (p := ⟨w.heap.size, 1, none⟩) (by simp; omega)).trans (by simp [free_push']); have q2 : w1.frozen? ⟨w.heap.size, 2, none⟩ = false := (hb1.frozen (p := ⟨w.heap.size, 2, none⟩) (by simp; omega)).trans (by simp [free_push']); have q3 : w1.frozen? ⟨w.heap.size, 3, none⟩ = false := (hb1.frozen (p := ⟨w.heap.size, 3, none⟩) (by simp; omega)).trans (by simp [free_push']); have q4 : w1.frozen? ⟨w.heap.size + 1, 3, none⟩ = false := (hb1.frozen (p := ⟨w.heap.size + 1, 3, none⟩) (by simp)).trans (by simp [free_push']); have B1 := Lib.hid (((((Below.refl _ _).alloc (Nat.le_refl w.heap.size) (.cells #[.int .i64 0, .int .i64 0, .int .i64 0, .int .i64 0] 68)).alloc (by simp) (.cells #[.int .i64 2, .int .i64 i, .int .i64 E, .int .i64 0] 68)).trans (hb1.mono (by simp; omega)))); clear hb1))
        refine bodyPost_ret (v := .tuple #[tokV 0 0 0 0, .int .i64 2]) (by rw [results_ct rfl]; go_simp; rfl) rfl ?_
        exact ⟨.inl ⟨2, HT2.out, rfl⟩, (((((B1.out.setCell (p := ⟨w.heap.size + 1, 3, none⟩) (by simp) _).setCell (p := ⟨w.heap.size, 0, none⟩) (by simp) _).setCell (p := ⟨w.heap.size, 1, none⟩) (by simp) _).setCell (p := ⟨w.heap.size, 2, none⟩) (by simp) _).setCell (p := ⟨w.heap.size, 3, none⟩) (by simp) _)⟩
      · have HC2 := Lib.hid (HC.out h2)
        have HT2 := Lib.hid (HT.out.trans (if_neg (by simp [h2, hz])))
        have x2 : ¬ 1073741824 < (C : Int) := by rw [HC2.out]; omega
        rw [hz] at e48
        clear HT HG HC h2 hz
        go_enter Tryz.func38, Tryz.ntmps38
        go_wp2_with (first | (go_at_call 73; refine (hlet _).mono ?_; rintro e w1 ⟨rfl, rfl⟩) | (go_at_call 80; refine (hdig _).mono ?_; rintro e w1 ⟨rfl, rfl⟩) | (go_at_call 74; refine (hbeh _).mono ?_; rintro e w1 ⟨rfl, rfl⟩) | (go_at_call 81; refine (hval _).mono ?_; rintro e w1 ⟨rfl, hb1⟩; have r0 : w1.cell? ⟨w.heap.size, 0, none⟩ = some (.int .i64 0) := (hb1.cell (p := ⟨w.heap.size, 0, none⟩) (by simp; omega)).trans (by simp [cell_push']); have r1 : w1.cell? ⟨w.heap.size, 1, none⟩ = some (.int .i64 0) := (hb1.cell (p := ⟨w.heap.size, 1, none⟩) (by simp; omega)).trans (by simp [cell_push']); have r2 : w1.cell? ⟨w.heap.size, 2, none⟩ = some (.int .i64 0) := (hb1.cell (p := ⟨w.heap.size, 2, none⟩) (by simp; omega)).trans (by simp [cell_push']); have r3 : w1.cell? ⟨w.heap.size, 3, none⟩ = some (.int .i64 0) := (hb1.cell (p := ⟨w.heap.size, 3, none⟩) (by simp; omega)).trans (by simp [cell_push']); have t0 : w1.cell? ⟨w.heap.size + 1, 0, none⟩ = some (.int .i64 2) := (hb1.cell (p := ⟨w.heap.size + 1, 0, none⟩) (by simp)).trans (by simp [cell_push']); have t1 : w1.cell? ⟨w.heap.size + 1, 1, none⟩ = some (.int .i64 i) := (hb1.cell (p := ⟨w.heap.size + 1, 1, none⟩) (by simp)).trans (by simp [cell_push']); have t2 : w1.cell? ⟨w.heap.size + 1, 2, none⟩ = some (.int .i64 E) := (hb1.cell (p := ⟨w.heap.size + 1, 2, none⟩) (by simp)).trans (by simp [cell_push']); have t3 : w1.cell? ⟨w.heap.size + 1, 3, none⟩ = some (.int .i64 0) := (hb1.cell (p := ⟨w.heap.size + 1, 3, none⟩) (by simp)).trans (by simp [cell_push']); have q0 : w1.frozen? ⟨w.heap.size, 0, none⟩ = false := (hb1.frozen (p := ⟨w.heap.size, 0, none⟩) (by simp; omega)).trans (by simp [free_push']); have q1 : w1.frozen? ⟨w.heap.size, 1, none⟩ = false := (hb1.frozen (p := ⟨w.heap.size, 1, none⟩) (by simp; omega)).trans (by simp [free_push']); have q2 : w1.frozen? ⟨w.heap.size, 2, none⟩ = false := (hb1.frozen (p := ⟨w.heap.size, 2, none⟩) (by simp; omega)).trans (by simp [free_push']); have q3 : w1.frozen? ⟨w.heap.size, 3, none⟩ = false := (hb1.frozen (p := ⟨w.heap.size, 3, none⟩) (by simp; omega)).trans (by simp [free_push']); have q4 : w1.frozen? ⟨w.heap.size + 1, 3, none⟩ = false := (hb1.frozen (p := ⟨w.heap.size + 1, 3, none⟩) (by simp)).trans (by simp [free_push']); have B1 := Lib.hid (((((Below.refl _ _).alloc (Nat.le_refl w.heap.size) (.cells #[.int .i64 0, .int .i64 0, .int .i64 0, .int .i64 0] 68)).alloc (by simp) (.cells #[.int .i64 2, .int .i64 i, .int .i64 E, .int .i64 0] 68)).trans (hb1.mono (by simp; omega)))); clear hb1))
        refine bodyPost_ret (v := .tuple #[tokV 2 i E C, .int .i64 0]) (by rw [results_ct rfl]; go_simp; rfl) rfl ?_
        exact ⟨.inr ⟨_, HT2.out, by show _ = Ending.returned (.tuple #[tokV 2 i ((i + (E - i) : Nat) : Int) (V : Nat), .int .i64 0]); rw [show i + (E - i) = E by omega, HC2.out]⟩, (((((B1.out.setCell (p := ⟨w.heap.size + 1, 3, none⟩) (by simp) _).setCell (p := ⟨w.heap.size, 0, none⟩) (by simp) _).setCell (p := ⟨w.heap.size, 1, none⟩) (by simp) _).setCell (p := ⟨w.heap.size, 2, none⟩) (by simp) _).setCell (p := ⟨w.heap.size, 3, none⟩) (by simp) _)⟩
    · have HT2 := Lib.hid (HT.out.trans (if_pos (by simp [h1, hz])))
      rw [hz] at e48
      clear HT HG HC hz
      go_enter Tryz.func38, Tryz.ntmps38
      go_wp2_with (first | (go_at_call 73; refine (hlet _).mono ?_; rintro e w1 ⟨rfl, rfl⟩) | (go_at_call 80; refine (hdig _).mono ?_; rintro e w1 ⟨rfl, rfl⟩) | (go_at_call 74; refine (hbeh _).mono ?_; rintro e w1 ⟨rfl, rfl⟩) | (go_at_call 81; refine (hval _).mono ?_; rintro e w1 ⟨rfl, hb1⟩; have r0 : w1.cell? ⟨w.heap.size, 0, none⟩ = some (.int .i64 0) := (hb1.cell (p := ⟨w.heap.size, 0, none⟩) (by simp; omega)).trans (by simp [cell_push']); have r1 : w1.cell? ⟨w.heap.size, 1, none⟩ = some (.int .i64 0) := (hb1.cell (p := ⟨w.heap.size, 1, none⟩) (by simp; omega)).trans (by simp [cell_push']); have r2 : w1.cell? ⟨w.heap.size, 2, none⟩ = some (.int .i64 0) := (hb1.cell (p := ⟨w.heap.size, 2, none⟩) (by simp; omega)).trans (by simp [cell_push']); have r3 : w1.cell? ⟨w.heap.size, 3, none⟩ = some (.int .i64 0) := (hb1.cell (p := ⟨w.heap.size, 3, none⟩) (by simp; omega)).trans (by simp [cell_push']); have t0 : w1.cell? ⟨w.heap.size + 1, 0, none⟩ = some (.int .i64 2) := (hb1.cell (p := ⟨w.heap.size + 1, 0, none⟩) (by simp)).trans (by simp [cell_push']); have t1 : w1.cell? ⟨w.heap.size + 1, 1, none⟩ = some (.int .i64 i) := (hb1.cell (p := ⟨w.heap.size + 1, 1, none⟩) (by simp)).trans (by simp [cell_push']); have t2 : w1.cell? ⟨w.heap.size + 1, 2, none⟩ = some (.int .i64 E) := (hb1.cell (p := ⟨w.heap.size + 1, 2, none⟩) (by simp)).trans (by simp [cell_push']); have t3 : w1.cell? ⟨w.heap.size + 1, 3, none⟩ = some (.int .i64 0) := (hb1.cell (p := ⟨w.heap.size + 1, 3, none⟩) (by simp)).trans (by simp [cell_push']); have q0 : w1.frozen? ⟨w.heap.size, 0, none⟩ = false := (hb1.frozen (p := ⟨w.heap.size, 0, none⟩) (by simp; omega)).trans (by simp [free_push']); have q1 : w1.frozen? ⟨w.heap.size, 1, none⟩ = false := (hb1.frozen (p := ⟨w.heap.size, 1, none⟩) (by simp; omega)).trans (by simp [free_push']); have q2 : w1.frozen? ⟨w.heap.size, 2, none⟩ = false := (hb1.frozen (p := ⟨w.heap.size, 2, none⟩) (by simp; omega)).trans (by simp [free_push']); have q3 : w1.frozen? ⟨w.heap.size, 3, none⟩ = false := (hb1.frozen (p := ⟨w.heap.size, 3, none⟩) (by simp; omega)).trans (by simp [free_push']); have q4 : w1.frozen? ⟨w.heap.size + 1, 3, none⟩ = false := (hb1.frozen (p := ⟨w.heap.size + 1, 3, none⟩) (by simp)).trans (by simp [free_push']); have B1 := Lib.hid (((((Below.refl _ _).alloc (Nat.le_refl w.heap.size) (.cells #[.int .i64 0, .int .i64 0, .int .i64 0, .int .i64 0] 68)).alloc (by simp) (.cells #[.int .i64 2, .int .i64 i, .int .i64 E, .int .i64 0] 68)).trans (hb1.mono (by simp; omega)))); clear hb1))
      refine bodyPost_ret (v := .tuple #[tokV 0 0 0 0, .int .i64 2]) (by rw [results_ct rfl]; go_simp; rfl) rfl ?_
      exact ⟨.inl ⟨2, HT2.out, rfl⟩, (((((B1.out.setCell (p := ⟨w.heap.size + 1, 3, none⟩) (by simp) _).setCell (p := ⟨w.heap.size, 0, none⟩) (by simp) _).setCell (p := ⟨w.heap.size, 1, none⟩) (by simp) _).setCell (p := ⟨w.heap.size, 2, none⟩) (by simp) _).setCell (p := ⟨w.heap.size, 3, none⟩) (by simp) _)⟩
  · have x1 : ¬ 1 < (E : Int) - i := by omega
    by_cases h2 : 1073741824 < V
    · have HT2 := Lib.hid (HT.out.trans (if_pos (by simp [h2])))
      have x2 : 1073741824 < (C : Int) := by have := HG.out; rw [← this] at h2; omega
      clear HT HG HC h2
      cases hz : s[i] == 48
      all_goals
        rw [hz] at e48
        clear hz
        go_enter Tryz.func38, Tryz.ntmps38
        go_wp2_with (first | (go_at_call 73; refine (hlet _).mono ?_; rintro e w1 ⟨rfl, rfl⟩) | (go_at_call 80; refine (hdig _).mono ?_; rintro e w1 ⟨rfl, rfl⟩) | (go_at_call 74; refine (hbeh _).mono ?_; rintro e w1 ⟨rfl, rfl⟩) | (go_at_call 81; refine (hval _).mono ?_; rintro e w1 ⟨rfl, hb1⟩; have r0 : w1.cell? ⟨w.heap.size, 0, none⟩ = some (.int .i64 0) := (hb1.cell (p := ⟨w.heap.size, 0, none⟩) (by simp; omega)).trans (by simp [cell_push']); have r1 : w1.cell? ⟨w.heap.size, 1, none⟩ = some (.int .i64 0) := (hb1.cell (p := ⟨w.heap.size, 1, none⟩) (by simp; omega)).trans (by simp [cell_push']); have r2 : w1.cell? ⟨w.heap.size, 2, none⟩ = some (.int .i64 0) := (hb1.cell (p := ⟨w.heap.size, 2, none⟩) (by simp; omega)).trans (by simp [cell_push']); have r3 : w1.cell? ⟨w.heap.size, 3, none⟩ = some (.int .i64 0) := (hb1.cell (p := ⟨w.heap.size, 3, none⟩) (by simp; omega)).trans (by simp [cell_push']); have t0 : w1.cell? ⟨w.heap.size + 1, 0, none⟩ = some (.int .i64 2) := (hb1.cell (p := ⟨w.heap.size + 1, 0, none⟩) (by simp)).trans (by simp [cell_push']); have t1 : w1.cell? ⟨w.heap.size + 1, 1, none⟩ = some (.int .i64 i) := (hb1.cell (p := ⟨w.heap.size + 1, 1, none⟩) (by simp)).trans (by simp [cell_push']); have t2 : w1.cell? ⟨w.heap.size + 1, 2, none⟩ = some (.int .i64 E) := (hb1.cell (p := ⟨w.heap.size + 1, 2, none⟩) (by simp)).trans (by simp [cell_push']); have t3 : w1.cell? ⟨w.heap.size + 1, 3, none⟩ = some (.int .i64 0) := (hb1.cell (p := ⟨w.heap.size + 1, 3, none⟩) (by simp)).trans (by simp [cell_push']); have q0 : w1.frozen? ⟨w.heap.size, 0, none⟩ = false := (hb1.frozen (p := ⟨w.heap.size, 0, none⟩) (by simp; omega)).trans (by simp [free_push']); have q1 : w1.frozen? ⟨w.heap.size, 1, none⟩ = false := (hb1.frozen (p := ⟨w.heap.size, 1, none⟩) (by simp; omega)).trans (by simp [free_push']); have q2 : w1.frozen? ⟨w.heap.size, 2, none⟩ = false := (hb1.frozen (p := ⟨w.heap.size, 2, none⟩) (by simp; omega)).trans (by simp [free_push']); have q3 : w1.frozen? ⟨w.heap.size, 3, none⟩ = false := (hb1.frozen (p := ⟨w.heap.size, 3, none⟩) (by simp; omega)).trans (by simp [free_push']); have q4 : w1.frozen? ⟨w.heap.size + 1, 3, none⟩ = false := (hb1.frozen (p := ⟨w.heap.size + 1, 3, none⟩) (by simp)).trans (by simp [free_push']); have B1 := Lib.hid (((((Below.refl _ _).alloc (Nat.le_refl w.heap.size) (.cells #[.int .i64 0, .int .i64 0, .int .i64 0, .int .i64 0] 68)).alloc (by simp) (.cells #[.int .i64 2, .int .i64 i, .int .i64 E, .int .i64 0] 68)).trans (hb1.mono (by simp; omega)))); clear hb1))
        refine bodyPost_ret (v := .tuple #[tokV 0 0 0 0, .int .i64 2]) (by rw [results_ct rfl]; go_simp; rfl) rfl ?_
        exact ⟨.inl ⟨2, HT2.out, rfl⟩, (((((B1.out.setCell (p := ⟨w.heap.size + 1, 3, none⟩) (by simp) _).setCell (p := ⟨w.heap.size, 0, none⟩) (by simp) _).setCell (p := ⟨w.heap.size, 1, none⟩) (by simp) _).setCell (p := ⟨w.heap.size, 2, none⟩) (by simp) _).setCell (p := ⟨w.heap.size, 3, none⟩) (by simp) _)⟩
    · have HC2 := Lib.hid (HC.out h2)
      have HT2 := Lib.hid (HT.out.trans (if_neg (by simp [h2, h1])))
      have x2 : ¬ 1073741824 < (C : Int) := by rw [HC2.out]; omega
      clear HT HG HC h2
      cases hz : s[i] == 48
      all_goals
        rw [hz] at e48
        clear hz
        go_enter Tryz.func38, Tryz.ntmps38
        go_wp2_with (first | (go_at_call 73; refine (hlet _).mono ?_; rintro e w1 ⟨rfl, rfl⟩) | (go_at_call 80; refine (hdig _).mono ?_; rintro e w1 ⟨rfl, rfl⟩) | (go_at_call 74; refine (hbeh _).mono ?_; rintro e w1 ⟨rfl, rfl⟩) | (go_at_call 81; refine (hval _).mono ?_; rintro e w1 ⟨rfl, hb1⟩; have r0 : w1.cell? ⟨w.heap.size, 0, none⟩ = some (.int .i64 0) := (hb1.cell (p := ⟨w.heap.size, 0, none⟩) (by simp; omega)).trans (by simp [cell_push']); have r1 : w1.cell? ⟨w.heap.size, 1, none⟩ = some (.int .i64 0) := (hb1.cell (p := ⟨w.heap.size, 1, none⟩) (by simp; omega)).trans (by simp [cell_push']); have r2 : w1.cell? ⟨w.heap.size, 2, none⟩ = some (.int .i64 0) := (hb1.cell (p := ⟨w.heap.size, 2, none⟩) (by simp; omega)).trans (by simp [cell_push']); have r3 : w1.cell? ⟨w.heap.size, 3, none⟩ = some (.int .i64 0) := (hb1.cell (p := ⟨w.heap.size, 3, none⟩) (by simp; omega)).trans (by simp [cell_push']); have t0 : w1.cell? ⟨w.heap.size + 1, 0, none⟩ = some (.int .i64 2) := (hb1.cell (p := ⟨w.heap.size + 1, 0, none⟩) (by simp)).trans (by simp [cell_push']); have t1 : w1.cell? ⟨w.heap.size + 1, 1, none⟩ = some (.int .i64 i) := (hb1.cell (p := ⟨w.heap.size + 1, 1, none⟩) (by simp)).trans (by simp [cell_push']); have t2 : w1.cell? ⟨w.heap.size + 1, 2, none⟩ = some (.int .i64 E) := (hb1.cell (p := ⟨w.heap.size + 1, 2, none⟩) (by simp)).trans (by simp [cell_push']); have t3 : w1.cell? ⟨w.heap.size + 1, 3, none⟩ = some (.int .i64 0) := (hb1.cell (p := ⟨w.heap.size + 1, 3, none⟩) (by simp)).trans (by simp [cell_push']); have q0 : w1.frozen? ⟨w.heap.size, 0, none⟩ = false := (hb1.frozen (p := ⟨w.heap.size, 0, none⟩) (by simp; omega)).trans (by simp [free_push']); have q1 : w1.frozen? ⟨w.heap.size, 1, none⟩ = false := (hb1.frozen (p := ⟨w.heap.size, 1, none⟩) (by simp; omega)).trans (by simp [free_push']); have q2 : w1.frozen? ⟨w.heap.size, 2, none⟩ = false := (hb1.frozen (p := ⟨w.heap.size, 2, none⟩) (by simp; omega)).trans (by simp [free_push']); have q3 : w1.frozen? ⟨w.heap.size, 3, none⟩ = false := (hb1.frozen (p := ⟨w.heap.size, 3, none⟩) (by simp; omega)).trans (by simp [free_push']); have q4 : w1.frozen? ⟨w.heap.size + 1, 3, none⟩ = false := (hb1.frozen (p := ⟨w.heap.size + 1, 3, none⟩) (by simp)).trans (by simp [free_push']); have B1 := Lib.hid (((((Below.refl _ _).alloc (Nat.le_refl w.heap.size) (.cells #[.int .i64 0, .int .i64 0, .int .i64 0, .int .i64 0] 68)).alloc (by simp) (.cells #[.int .i64 2, .int .i64 i, .int .i64 E, .int .i64 0] 68)).trans (hb1.mono (by simp; omega)))); clear hb1))
        refine bodyPost_ret (v := .tuple #[tokV 2 i E C, .int .i64 0]) (by rw [results_ct rfl]; go_simp; rfl) rfl ?_
        exact ⟨.inr ⟨_, HT2.out, by show _ = Ending.returned (.tuple #[tokV 2 i ((i + (E - i) : Nat) : Int) (V : Nat), .int .i64 0]); rw [show i + (E - i) = E by omega, HC2.out]⟩, (((((B1.out.setCell (p := ⟨w.heap.size + 1, 3, none⟩) (by simp) _).setCell (p := ⟨w.heap.size, 0, none⟩) (by simp) _).setCell (p := ⟨w.heap.size, 1, none⟩) (by simp) _).setCell (p := ⟨w.heap.size, 2, none⟩) (by simp) _).setCell (p := ⟨w.heap.size, 3, none⟩) (by simp) _)⟩

set_option maxHeartbeats 2000000 in
theorem tokenS_any (s : ByteArray) (i : Nat) (w : World) (hs : s.size ≤ 1000000) (hi : i < s.size) (hl : isLet s[i] = false) (hd : isDgt s[i] = false) :
    Calls Tryz.prog 38 #[.string s, .int .i64 (i : Int)] w fun e w' => TokSays s i e ∧ Below w.heap.size w w' := by
  have hlet := fun w => letter_any s[i] w
  have hdig := fun w => digit_any s[i] w
  rw [hl] at hlet
  rw [hd] at hdig
  have hsig := fun w => behindSign_any s i w hs hi
  have HT := Lib.hid (tok_sign hi hl hd)
  generalize signF (s.data.toList.drop i) = R at *
  clear hl hd
  by_cases h0 : R = 0
  · have HT2 := Lib.hid (HT.out.trans (if_pos h0))
    have x0 : ((i : Int) + R == i) = true := by simp; omega
    clear HT
    go_enter Tryz.func38, Tryz.ntmps38
    go_wp2_with (first | (go_at_call 73; refine (hlet _).mono ?_; rintro e w1 ⟨rfl, rfl⟩) | (go_at_call 80; refine (hdig _).mono ?_; rintro e w1 ⟨rfl, rfl⟩) | (go_at_call 82; refine (hsig _).mono ?_; rintro e w1 ⟨rfl, rfl⟩))
    refine bodyPost_ret (v := .tuple #[tokV 0 0 0 0, .int .i64 4]) (by rw [results_ct rfl]; go_simp; rfl) rfl ?_
    exact ⟨.inl ⟨4, HT2.out, rfl⟩, ((Below.refl _ _).alloc (Nat.le_refl _) _).alloc (by simp) _⟩
  · have HT2 := Lib.hid (HT.out.trans (if_neg h0))
    have x0 : ((i : Int) + R == i) = false := by simp; omega
    clear HT
    go_enter Tryz.func38, Tryz.ntmps38
    go_wp2_with (first | (go_at_call 73; refine (hlet _).mono ?_; rintro e w1 ⟨rfl, rfl⟩) | (go_at_call 80; refine (hdig _).mono ?_; rintro e w1 ⟨rfl, rfl⟩) | (go_at_call 82; refine (hsig _).mono ?_; rintro e w1 ⟨rfl, rfl⟩))
    refine bodyPost_ret (v := .tuple #[tokV 3 i ((i : Int) + R) 0, .int .i64 0]) (by rw [results_ct rfl]; go_simp; rfl) rfl ?_
    exact ⟨.inr ⟨_, HT2.out, by show _ = Ending.returned (.tuple #[tokV 3 i ((i + R : Nat) : Int) 0, .int .i64 0]); rw [Int.natCast_add]⟩, ((Below.refl _ _).alloc (Nat.le_refl _) _).alloc (by simp) _⟩
theorem token_any (s : ByteArray) (i : Nat) (w : World) (hs : s.size ≤ 1000000) (hi : i < s.size) :
    Calls Tryz.prog 38 #[.string s, .int .i64 (i : Int)] w fun e w' => TokSays s i e ∧ Below w.heap.size w w' := by
  cases hl : isLet s[i] with
  | true => exact tokenW_any s i w hs hi hl
  | false => cases hd : isDgt s[i] with
    | true => exact tokenN_any s i w hs hi hl hd
    | false => exact tokenS_any s i w hs hi hl hd
end Go.Proofs.YtokmehjofboflaaGreatDoor
namespace Go.Proofs.YtokmehjofboflaaGreatDoor
set_option maxRecDepth 100000
open Go.RowKit

set_option maxHeartbeats 4000000 in
theorem signR_1 (s : ByteArray) (i : Nat) (w : World) (hs : s.size ≤ 1000000) (hi : i < s.size) (h2 : i + 1 = s.size) :
    Calls Tryz.prog 97 #[.string s, .int .i64 (i : Int)] w fun e w' => e = .returned (.int .i64 ((signF (s.data.toList.drop i) : Nat) : Int)) ∧ w' = w := by
  have HN : Hid (signF (s.data.toList.drop i) = if isOne s[i] then 1 else 0) := Lib.hid (by
    rw [drop_at s hi, drop_end s (by omega)]; exact sign_else two_one)
  have g1 : ((s[i].toNat : Int) == 59) = (s[i] == 59) := byte_eq s[i] 59 (by decide)
  have g2 : ((s[i].toNat : Int) == 58) = (s[i] == 58) := byte_eq s[i] 58 (by decide)
  have g3 : ((s[i].toNat : Int) == 44) = (s[i] == 44) := byte_eq s[i] 44 (by decide)
  have g4 : ((s[i].toNat : Int) == 40) = (s[i] == 40) := byte_eq s[i] 40 (by decide)
  have g5 : ((s[i].toNat : Int) == 41) = (s[i] == 41) := byte_eq s[i] 41 (by decide)
  have g6 : ((s[i].toNat : Int) == 46) = (s[i] == 46) := byte_eq s[i] 46 (by decide)
  have g7 : ((s[i].toNat : Int) == 63) = (s[i] == 63) := byte_eq s[i] 63 (by decide)
  have g8 : ((s[i].toNat : Int) == 60) = (s[i] == 60) := byte_eq s[i] 60 (by decide)
  have g9 : ((s[i].toNat : Int) == 62) = (s[i] == 62) := byte_eq s[i] 62 (by decide)
  have g10 : ((s[i].toNat : Int) == 43) = (s[i] == 43) := byte_eq s[i] 43 (by decide)
  have g11 : ((s[i].toNat : Int) == 45) = (s[i] == 45) := byte_eq s[i] 45 (by decide)
  have g12 : ((s[i].toNat : Int) == 42) = (s[i] == 42) := byte_eq s[i] 42 (by decide)
  have g13 : ((s[i].toNat : Int) == 47) = (s[i] == 47) := byte_eq s[i] 47 (by decide)
  have g14 : ((s[i].toNat : Int) == 37) = (s[i] == 37) := byte_eq s[i] 37 (by decide)
  have g15 : ((s[i].toNat : Int) == 33) = (s[i] == 33) := byte_eq s[i] 33 (by decide)
  generalize signF (s.data.toList.drop i) = R at *
  unfold isOne at HN
  generalize (s[i] == 59) = d1 at *
  generalize (s[i] == 58) = d2 at *
  generalize (s[i] == 44) = d3 at *
  generalize (s[i] == 40) = d4 at *
  generalize (s[i] == 41) = d5 at *
  generalize (s[i] == 46) = d6 at *
  generalize (s[i] == 63) = d7 at *
  generalize (s[i] == 60) = d8 at *
  generalize (s[i] == 62) = d9 at *
  generalize (s[i] == 43) = d10 at *
  generalize (s[i] == 45) = d11 at *
  generalize (s[i] == 42) = d12 at *
  generalize (s[i] == 47) = d13 at *
  generalize (s[i] == 37) = d14 at *
  generalize (s[i] == 33) = d15 at *
  cases d1
  · cases d2
    · cases d3
      · cases d4
        · cases d5
          · cases d6
            · cases d7
              · cases d8
                · cases d9
                  · cases d10
                    · cases d11
                      · cases d12
                        · cases d13
                          · cases d14
                            · cases d15
                              · have HE := Lib.hid (HN.out)
                                clear HN
                                go_enter Tryz.func97, Tryz.ntmps97
                                go_wp2
                                go_ret
                                exact ⟨ret_int (by rw [HE.out]; rfl), rfl⟩
                              · have HE := Lib.hid (HN.out)
                                clear HN
                                go_enter Tryz.func97, Tryz.ntmps97
                                go_wp2
                                go_ret
                                exact ⟨ret_int (by rw [HE.out]; rfl), rfl⟩
                            · have HE := Lib.hid (HN.out)
                              clear HN
                              go_enter Tryz.func97, Tryz.ntmps97
                              go_wp2
                              go_ret
                              exact ⟨ret_int (by rw [HE.out]; rfl), rfl⟩
                          · have HE := Lib.hid (HN.out)
                            clear HN
                            go_enter Tryz.func97, Tryz.ntmps97
                            go_wp2
                            go_ret
                            exact ⟨ret_int (by rw [HE.out]; rfl), rfl⟩
                        · have HE := Lib.hid (HN.out)
                          clear HN
                          go_enter Tryz.func97, Tryz.ntmps97
                          go_wp2
                          go_ret
                          exact ⟨ret_int (by rw [HE.out]; rfl), rfl⟩
                      · have HE := Lib.hid (HN.out)
                        clear HN
                        go_enter Tryz.func97, Tryz.ntmps97
                        go_wp2
                        go_ret
                        exact ⟨ret_int (by rw [HE.out]; rfl), rfl⟩
                    · have HE := Lib.hid (HN.out)
                      clear HN
                      go_enter Tryz.func97, Tryz.ntmps97
                      go_wp2
                      go_ret
                      exact ⟨ret_int (by rw [HE.out]; rfl), rfl⟩
                  · have HE := Lib.hid (HN.out)
                    clear HN
                    go_enter Tryz.func97, Tryz.ntmps97
                    go_wp2
                    go_ret
                    exact ⟨ret_int (by rw [HE.out]; rfl), rfl⟩
                · have HE := Lib.hid (HN.out)
                  clear HN
                  go_enter Tryz.func97, Tryz.ntmps97
                  go_wp2
                  go_ret
                  exact ⟨ret_int (by rw [HE.out]; rfl), rfl⟩
              · have HE := Lib.hid (HN.out)
                clear HN
                go_enter Tryz.func97, Tryz.ntmps97
                go_wp2
                go_ret
                exact ⟨ret_int (by rw [HE.out]; rfl), rfl⟩
            · have HE := Lib.hid (HN.out)
              clear HN
              go_enter Tryz.func97, Tryz.ntmps97
              go_wp2
              go_ret
              exact ⟨ret_int (by rw [HE.out]; rfl), rfl⟩
          · have HE := Lib.hid (HN.out)
            clear HN
            go_enter Tryz.func97, Tryz.ntmps97
            go_wp2
            go_ret
            exact ⟨ret_int (by rw [HE.out]; rfl), rfl⟩
        · have HE := Lib.hid (HN.out)
          clear HN
          go_enter Tryz.func97, Tryz.ntmps97
          go_wp2
          go_ret
          exact ⟨ret_int (by rw [HE.out]; rfl), rfl⟩
      · have HE := Lib.hid (HN.out)
        clear HN
        go_enter Tryz.func97, Tryz.ntmps97
        go_wp2
        go_ret
        exact ⟨ret_int (by rw [HE.out]; rfl), rfl⟩
    · have HE := Lib.hid (HN.out)
      clear HN
      go_enter Tryz.func97, Tryz.ntmps97
      go_wp2
      go_ret
      exact ⟨ret_int (by rw [HE.out]; rfl), rfl⟩
  · have HE := Lib.hid (HN.out)
    clear HN
    go_enter Tryz.func97, Tryz.ntmps97
    go_wp2
    go_ret
    exact ⟨ret_int (by rw [HE.out]; rfl), rfl⟩
set_option maxHeartbeats 4000000 in
theorem signR_2 (s : ByteArray) (i : Nat) (w : World) (hs : s.size ≤ 1000000) (hi : i < s.size) (h2 : i + 2 ≤ s.size) :
    Calls Tryz.prog 97 #[.string s, .int .i64 (i : Int)] w fun e w' => e = .returned (.int .i64 ((signF (s.data.toList.drop i) : Nat) : Int)) ∧ w' = w := by
  have hT : (s.extract i (i + 2)).toList = (s.data.toList.drop i).take 2 := by rw [extract_list]; congr 1; omega
  have HF : Hid (twos.contains ((s.data.toList.drop i).take 2) = true → signF (s.data.toList.drop i) = 2) := Lib.hid sign_two
  have HN : Hid (twos.contains ((s.data.toList.drop i).take 2) = false → signF (s.data.toList.drop i) = if isOne s[i] then 1 else 0) := Lib.hid (by
    rw [drop_at s hi]; exact sign_else)
  have g1 : ((s[i].toNat : Int) == 59) = (s[i] == 59) := byte_eq s[i] 59 (by decide)
  have g2 : ((s[i].toNat : Int) == 58) = (s[i] == 58) := byte_eq s[i] 58 (by decide)
  have g3 : ((s[i].toNat : Int) == 44) = (s[i] == 44) := byte_eq s[i] 44 (by decide)
  have g4 : ((s[i].toNat : Int) == 40) = (s[i] == 40) := byte_eq s[i] 40 (by decide)
  have g5 : ((s[i].toNat : Int) == 41) = (s[i] == 41) := byte_eq s[i] 41 (by decide)
  have g6 : ((s[i].toNat : Int) == 46) = (s[i] == 46) := byte_eq s[i] 46 (by decide)
  have g7 : ((s[i].toNat : Int) == 63) = (s[i] == 63) := byte_eq s[i] 63 (by decide)
  have g8 : ((s[i].toNat : Int) == 60) = (s[i] == 60) := byte_eq s[i] 60 (by decide)
  have g9 : ((s[i].toNat : Int) == 62) = (s[i] == 62) := byte_eq s[i] 62 (by decide)
  have g10 : ((s[i].toNat : Int) == 43) = (s[i] == 43) := byte_eq s[i] 43 (by decide)
  have g11 : ((s[i].toNat : Int) == 45) = (s[i] == 45) := byte_eq s[i] 45 (by decide)
  have g12 : ((s[i].toNat : Int) == 42) = (s[i] == 42) := byte_eq s[i] 42 (by decide)
  have g13 : ((s[i].toNat : Int) == 47) = (s[i] == 47) := byte_eq s[i] 47 (by decide)
  have g14 : ((s[i].toNat : Int) == 37) = (s[i] == 37) := byte_eq s[i] 37 (by decide)
  have g15 : ((s[i].toNat : Int) == 33) = (s[i] == 33) := byte_eq s[i] 33 (by decide)
  generalize (s.data.toList.drop i).take 2 = T at hT HF HN
  rw [twos_or] at HF HN
  generalize signF (s.data.toList.drop i) = R at *
  unfold isOne at HN
  generalize (s[i] == 59) = d1 at *
  generalize (s[i] == 58) = d2 at *
  generalize (s[i] == 44) = d3 at *
  generalize (s[i] == 40) = d4 at *
  generalize (s[i] == 41) = d5 at *
  generalize (s[i] == 46) = d6 at *
  generalize (s[i] == 63) = d7 at *
  generalize (s[i] == 60) = d8 at *
  generalize (s[i] == 62) = d9 at *
  generalize (s[i] == 43) = d10 at *
  generalize (s[i] == 45) = d11 at *
  generalize (s[i] == 42) = d12 at *
  generalize (s[i] == 47) = d13 at *
  generalize (s[i] == 37) = d14 at *
  generalize (s[i] == 33) = d15 at *
  generalize hc1 : (T == [46, 46]) = c1 at HF HN
  generalize hc2 : (T == [45, 62]) = c2 at HF HN
  generalize hc3 : (T == [58, 61]) = c3 at HF HN
  generalize hc4 : (T == [38, 38]) = c4 at HF HN
  generalize hc5 : (T == [124, 124]) = c5 at HF HN
  generalize hc6 : (T == [61, 61]) = c6 at HF HN
  generalize hc7 : (T == [33, 61]) = c7 at HF HN
  generalize hc8 : (T == [60, 61]) = c8 at HF HN
  generalize hc9 : (T == [62, 61]) = c9 at HF HN
  have hle : (i : Int) ≤ s.size := by omega
  cases c1
  · cases c2
    · cases c3
      · cases c4
        · cases c5
          · cases c6
            · cases c7
              · cases c8
                · cases c9
                  · have HN := Lib.hid (HN.out rfl)
                    clear HF
                    cases d1
                    · cases d2
                      · cases d3
                        · cases d4
                          · cases d5
                            · cases d6
                              · cases d7
                                · cases d8
                                  · cases d9
                                    · cases d10
                                      · cases d11
                                        · cases d12
                                          · cases d13
                                            · cases d14
                                              · cases d15
                                                · have HE := Lib.hid (HN.out)
                                                  clear HN
                                                  go_enter Tryz.func97, Tryz.ntmps97
                                                  go_wp2
                                                  go_ret
                                                  exact ⟨ret_int (by rw [HE.out]; rfl), rfl⟩
                                                · have HE := Lib.hid (HN.out)
                                                  clear HN
                                                  go_enter Tryz.func97, Tryz.ntmps97
                                                  go_wp2
                                                  go_ret
                                                  exact ⟨ret_int (by rw [HE.out]; rfl), rfl⟩
                                              · have HE := Lib.hid (HN.out)
                                                clear HN
                                                go_enter Tryz.func97, Tryz.ntmps97
                                                go_wp2
                                                go_ret
                                                exact ⟨ret_int (by rw [HE.out]; rfl), rfl⟩
                                            · have HE := Lib.hid (HN.out)
                                              clear HN
                                              go_enter Tryz.func97, Tryz.ntmps97
                                              go_wp2
                                              go_ret
                                              exact ⟨ret_int (by rw [HE.out]; rfl), rfl⟩
                                          · have HE := Lib.hid (HN.out)
                                            clear HN
                                            go_enter Tryz.func97, Tryz.ntmps97
                                            go_wp2
                                            go_ret
                                            exact ⟨ret_int (by rw [HE.out]; rfl), rfl⟩
                                        · have HE := Lib.hid (HN.out)
                                          clear HN
                                          go_enter Tryz.func97, Tryz.ntmps97
                                          go_wp2
                                          go_ret
                                          exact ⟨ret_int (by rw [HE.out]; rfl), rfl⟩
                                      · have HE := Lib.hid (HN.out)
                                        clear HN
                                        go_enter Tryz.func97, Tryz.ntmps97
                                        go_wp2
                                        go_ret
                                        exact ⟨ret_int (by rw [HE.out]; rfl), rfl⟩
                                    · have HE := Lib.hid (HN.out)
                                      clear HN
                                      go_enter Tryz.func97, Tryz.ntmps97
                                      go_wp2
                                      go_ret
                                      exact ⟨ret_int (by rw [HE.out]; rfl), rfl⟩
                                  · have HE := Lib.hid (HN.out)
                                    clear HN
                                    go_enter Tryz.func97, Tryz.ntmps97
                                    go_wp2
                                    go_ret
                                    exact ⟨ret_int (by rw [HE.out]; rfl), rfl⟩
                                · have HE := Lib.hid (HN.out)
                                  clear HN
                                  go_enter Tryz.func97, Tryz.ntmps97
                                  go_wp2
                                  go_ret
                                  exact ⟨ret_int (by rw [HE.out]; rfl), rfl⟩
                              · have HE := Lib.hid (HN.out)
                                clear HN
                                go_enter Tryz.func97, Tryz.ntmps97
                                go_wp2
                                go_ret
                                exact ⟨ret_int (by rw [HE.out]; rfl), rfl⟩
                            · have HE := Lib.hid (HN.out)
                              clear HN
                              go_enter Tryz.func97, Tryz.ntmps97
                              go_wp2
                              go_ret
                              exact ⟨ret_int (by rw [HE.out]; rfl), rfl⟩
                          · have HE := Lib.hid (HN.out)
                            clear HN
                            go_enter Tryz.func97, Tryz.ntmps97
                            go_wp2
                            go_ret
                            exact ⟨ret_int (by rw [HE.out]; rfl), rfl⟩
                        · have HE := Lib.hid (HN.out)
                          clear HN
                          go_enter Tryz.func97, Tryz.ntmps97
                          go_wp2
                          go_ret
                          exact ⟨ret_int (by rw [HE.out]; rfl), rfl⟩
                      · have HE := Lib.hid (HN.out)
                        clear HN
                        go_enter Tryz.func97, Tryz.ntmps97
                        go_wp2
                        go_ret
                        exact ⟨ret_int (by rw [HE.out]; rfl), rfl⟩
                    · have HE := Lib.hid (HN.out)
                      clear HN
                      go_enter Tryz.func97, Tryz.ntmps97
                      go_wp2
                      go_ret
                      exact ⟨ret_int (by rw [HE.out]; rfl), rfl⟩
                  · have HE := Lib.hid (HF.out (by simp))
                    clear HF HN
                    go_enter Tryz.func97, Tryz.ntmps97
                    go_wp2
                    go_ret
                    exact ⟨ret_int (by rw [HE.out]; rfl), rfl⟩
                · have HE := Lib.hid (HF.out (by simp))
                  clear HF HN
                  go_enter Tryz.func97, Tryz.ntmps97
                  go_wp2
                  go_ret
                  exact ⟨ret_int (by rw [HE.out]; rfl), rfl⟩
              · have HE := Lib.hid (HF.out (by simp))
                clear HF HN
                go_enter Tryz.func97, Tryz.ntmps97
                go_wp2
                go_ret
                exact ⟨ret_int (by rw [HE.out]; rfl), rfl⟩
            · have HE := Lib.hid (HF.out (by simp))
              clear HF HN
              go_enter Tryz.func97, Tryz.ntmps97
              go_wp2
              go_ret
              exact ⟨ret_int (by rw [HE.out]; rfl), rfl⟩
          · have HE := Lib.hid (HF.out (by simp))
            clear HF HN
            go_enter Tryz.func97, Tryz.ntmps97
            go_wp2
            go_ret
            exact ⟨ret_int (by rw [HE.out]; rfl), rfl⟩
        · have HE := Lib.hid (HF.out (by simp))
          clear HF HN
          go_enter Tryz.func97, Tryz.ntmps97
          go_wp2
          go_ret
          exact ⟨ret_int (by rw [HE.out]; rfl), rfl⟩
      · have HE := Lib.hid (HF.out (by simp))
        clear HF HN
        go_enter Tryz.func97, Tryz.ntmps97
        go_wp2
        go_ret
        exact ⟨ret_int (by rw [HE.out]; rfl), rfl⟩
    · have HE := Lib.hid (HF.out (by simp))
      clear HF HN
      go_enter Tryz.func97, Tryz.ntmps97
      go_wp2
      go_ret
      exact ⟨ret_int (by rw [HE.out]; rfl), rfl⟩
  · have HE := Lib.hid (HF.out (by simp))
    clear HF HN
    go_enter Tryz.func97, Tryz.ntmps97
    go_wp2
    go_ret
    exact ⟨ret_int (by rw [HE.out]; rfl), rfl⟩
theorem sign_any (s : ByteArray) (i : Nat) (w : World) (hs : s.size ≤ 1000000) (hi : i < s.size) :
    Calls Tryz.prog 97 #[.string s, .int .i64 (i : Int)] w fun e w' => e = .returned (.int .i64 ((signF (s.data.toList.drop i) : Nat) : Int)) ∧ w' = w := by
  by_cases h : i + 2 ≤ s.size
  · exact signR_2 s i w hs hi h
  · exact signR_1 s i w hs hi (by omega)
end Go.Proofs.YtokmehjofboflaaGreatDoor
namespace Go.Proofs.YtokmehjofboflaaGreatDoor
set_option maxRecDepth 100000
open Go.RowKit

/-- the world while the specification's token grows: the result's cell, and the token -/
def tokW (w : World) (k i e n : Int) : World := (w.alloc (.cells #[.int .i64 0, .int .i64 0, .int .i64 0, .int .i64 0] 68)).alloc (.cells #[.int .i64 k, .int .i64 i, .int .i64 e, .int .i64 n] 68)
theorem tokW_eq (w : World) (k i e n : Int) : tokW w k i e n = (w.alloc (.cells #[.int .i64 0, .int .i64 0, .int .i64 0, .int .i64 0] 68)).alloc (.cells #[.int .i64 k, .int .i64 i, .int .i64 e, .int .i64 n] 68) := rfl
theorem tokW_cell (w : World) (k i e n : Int) : (tokW w k i e n).cell? ⟨w.heap.size + 1, 2, none⟩ = some (.int .i64 e) := by simp [tokW, cell_push']
theorem tokW_below (w : World) (k i e n : Int) : Below w.heap.size w (tokW w k i e n) := ((Below.refl _ _).alloc (Nat.le_refl _) _).alloc (by simp) _
def endOf (w wr : World) : Nat := (intOf ((wr.cell? ⟨w.heap.size + 1, 2, none⟩).getD undef)).toNat
theorem endOf_tok (w : World) (k i n : Int) (e : Nat) : endOf w (tokW w k i e n) = e := by
  unfold endOf
  rw [tokW_cell]
  simp [intOf]

set_option maxHeartbeats 2000000 in
theorem tokenRW_any (s : ByteArray) (i : Nat) (w : World) (hs : s.size ≤ 1000000) (hi : i < s.size) (hl : isLet s[i] = true) :
    Calls Tryz.prog 52 #[.string s, .int .i64 (i : Int)] w fun e w' => TokSays s i e ∧ Below w.heap.size w w' := by
  have hlet := fun w => letterR_any s[i] w
  rw [hl] at hlet
  have HT := Lib.hid (tok_word hi hl)
  have HE := Lib.hid (run_yes hi (in_let hl))
  clear hl
  go_enter Tryz.func52, Tryz.ntmps52
  go_wp2_with (go_at_call 92; refine (hlet _).mono ?_; rintro e w1 ⟨rfl, rfl⟩)
  go_loopw [] (fun wr => ∃ k : Nat, i < k ∧ k ≤ s.size ∧ runAt isIn s i = runAt isIn s k ∧ wr = tokW w 1 i k 0) (fun wr => s.size - endOf w wr)
  case atStart => exact ⟨i + 1, by omega, by omega, HE.out, rfl⟩
  case round =>
    obtain ⟨k, hik, hk, hR, rfl⟩ := hrel
    have HR := Lib.hid hR
    clear hR HE
    have hm := endOf_tok w 1 i 0 k
    by_cases hlt : k < s.size
    · have hc := fun w => inner_any s[k] w
      cases hp : isIn s[k]
      · have HE := Lib.hid (HR.out.trans (run_no hlt hp))
        rw [hp] at hc
        rw [HE.out] at HT
        clear hp hm
        by_cases h24 : 24 < k - i
        · have HT2 := Lib.hid (HT.out.trans (if_pos h24))
          have h1 : 24 < (k : Int) - i := by omega
          clear HT
          rw [tokW_eq]
          go_wp2_with (go_at_call 93; refine (hc _).mono ?_; rintro e w1 ⟨rfl, rfl⟩)
          refine bodyPost_ret (v := .tuple #[tokV 0 0 0 0, .int .i64 5]) (by rw [results_ct rfl]; go_simp; rfl) rfl ?_
          exact ⟨.inl ⟨5, HT2.out, rfl⟩, ((Below.refl _ _).alloc (Nat.le_refl _) _).alloc (by simp) _⟩
        · have HT2 := Lib.hid (HT.out.trans (if_neg h24))
          have h1 : ¬ 24 < (k : Int) - i := by omega
          clear HT
          rw [tokW_eq]
          go_wp2_with (go_at_call 93; refine (hc _).mono ?_; rintro e w1 ⟨rfl, rfl⟩)
          refine bodyPost_ret (v := .tuple #[tokV 1 i k 0, .int .i64 0]) (by rw [results_ct rfl]; go_simp; rfl) rfl ?_
          exact ⟨.inr ⟨_, HT2.out, by show _ = Ending.returned (.tuple #[tokV 1 i ((i + (k - i) : Nat) : Int) 0, .int .i64 0]); rw [show i + (k - i) = k by omega]⟩, ((Below.refl _ _).alloc (Nat.le_refl _) _).alloc (by simp) _⟩
      · have HE := Lib.hid (HR.out.trans (run_yes hlt hp))
        rw [hp] at hc
        clear hp HT
        have hm2 := endOf_tok w 1 i 0 (k + 1)
        have Hm := Lib.hid hm
        have Hm2 := Lib.hid hm2
        clear hm hm2
        rw [tokW_eq]
        go_wp2_with (go_at_call 93; refine (hc _).mono ?_; rintro e w1 ⟨rfl, rfl⟩)
        go_roundw
        case rel => exact ⟨k + 1, by omega, by omega, HE.out, by unfold tokW; rfl⟩
        case measure =>
          have h1 := Hm.out
          have h2 := Hm2.out
          unfold tokW at h1 h2
          have e : ((k + 1 : Nat) : Int) = (k : Int) + 1 := by omega
          rw [e] at h2
          rw [h1, h2]
          omega
    · have HE := Lib.hid (HR.out.trans (run_end (by omega)))
      rw [HE.out] at HT
      clear hm
      by_cases h24 : 24 < k - i
      · have HT2 := Lib.hid (HT.out.trans (if_pos h24))
        have h1 : 24 < (k : Int) - i := by omega
        clear HT
        rw [tokW_eq]
        go_wp2
        refine bodyPost_ret (v := .tuple #[tokV 0 0 0 0, .int .i64 5]) (by rw [results_ct rfl]; go_simp; rfl) rfl ?_
        exact ⟨.inl ⟨5, HT2.out, rfl⟩, ((Below.refl _ _).alloc (Nat.le_refl _) _).alloc (by simp) _⟩
      · have HT2 := Lib.hid (HT.out.trans (if_neg h24))
        have h1 : ¬ 24 < (k : Int) - i := by omega
        clear HT
        rw [tokW_eq]
        go_wp2
        refine bodyPost_ret (v := .tuple #[tokV 1 i k 0, .int .i64 0]) (by rw [results_ct rfl]; go_simp; rfl) rfl ?_
        exact ⟨.inr ⟨_, HT2.out, by show _ = Ending.returned (.tuple #[tokV 1 i ((i + (k - i) : Nat) : Int) 0, .int .i64 0]); rw [show i + (k - i) = k by omega]⟩, ((Below.refl _ _).alloc (Nat.le_refl _) _).alloc (by simp) _⟩

set_option maxHeartbeats 4000000 in
theorem tokenRN_any (s : ByteArray) (i : Nat) (w : World) (hs : s.size ≤ 1000000) (hi : i < s.size) (hl : isLet s[i] = false) (hd : isDgt s[i] = true) :
    Calls Tryz.prog 52 #[.string s, .int .i64 (i : Int)] w fun e w' => TokSays s i e ∧ Below w.heap.size w w' := by
  have hlet := fun w => letterR_any s[i] w
  have hdig := fun w => digitR_any s[i] w
  rw [hl] at hlet
  rw [hd] at hdig
  have HT := Lib.hid (tok_num hi hl hd)
  have HE := Lib.hid (run_yes hi hd)
  have hdg := run_digits (s := s) (i := i)
  have hnumA : ∀ (k : Nat) (w0 : World), runAt isDgt s i = k → i < k → k ≤ s.size → Calls Tryz.prog 96 #[.string (s.extract i k)] w0 fun e w' => (∃ z : Int, e = .returned (.tuple #[.int .i64 z, .bool (!badF ((s.data.toList.drop i).take (k - i)))]) ∧ (badF ((s.data.toList.drop i).take (k - i)) = false → z = valF ((s.data.toList.drop i).take (k - i)))) ∧ w' = w0 := by
    intro k w0 hk h1 h2
    rw [hk] at hdg
    have hL : (s.extract i k).data.toList = (s.data.toList.drop i).take (k - i) := by rw [ByteArray.data_extract, Array.toList_extract]
    have h := number_any (s.extract i k) w0 (by rw [ByteArray.size_extract]; omega) (by rw [hL]; exact hdg) (by rw [ByteArray.size_extract]; omega)
    rw [hL] at h
    exact h
  have HN := Lib.hid hnumA
  clear hl hd hdg hnumA
  go_enter Tryz.func52, Tryz.ntmps52
  go_wp2_with (first | (go_at_call 92; refine (hlet _).mono ?_; rintro e w1 ⟨rfl, rfl⟩) | (go_at_call 95; refine (hdig _).mono ?_; rintro e w1 ⟨rfl, rfl⟩))
  go_loopw [] (fun wr => ∃ k : Nat, i < k ∧ k ≤ s.size ∧ runAt isDgt s i = runAt isDgt s k ∧ wr = tokW w 2 i k 0) (fun wr => s.size - endOf w wr)
  case atStart => exact ⟨i + 1, by omega, by omega, HE.out, rfl⟩
  case round =>
    obtain ⟨k, hik, hk, hR, rfl⟩ := hrel
    have HR := Lib.hid hR
    clear hR HE hdig hlet
    have hm := endOf_tok w 2 i 0 k
    have hie : (i : Int) ≤ k := by omega
    have hes : (k : Int) ≤ s.size := by omega
    by_cases hlt : k < s.size
    · have hc := fun w => digitR_any s[k] w
      cases hp : isDgt s[k]
      · have HE := Lib.hid (HR.out.trans (run_no hlt hp))
        rw [hp] at hc
        rw [HE.out] at HT
        have hnumb := fun w0 => HN.out k w0 HE.out hik hk
        clear hp hm HN
        cases hb : badF ((s.data.toList.drop i).take (k - i))
        · have HT2 : Hid (tokF (s.data.toList.drop i) = .inr ⟨2, k - i, valF ((s.data.toList.drop i).take (k - i))⟩) := Lib.hid (HT.out.trans (by rw [hb]; rfl))
          have hnum := hnumb
          rw [hb] at hnum
          clear HT hb hnumb
          rw [tokW_eq]
          go_wp2_with (first | (go_at_call 95; refine (hc _).mono ?_; rintro e w1 ⟨rfl, rfl⟩) | (go_at_call 96; refine (hnum _).mono ?_; rintro e w1 ⟨⟨z, rfl, hz⟩, rfl⟩))
          refine bodyPost_ret (v := .tuple #[tokV 2 i k z, .int .i64 0]) (by rw [results_ct rfl]; go_simp; rfl) rfl ?_
          exact ⟨.inr ⟨_, HT2.out, by show _ = Ending.returned (.tuple #[tokV 2 i ((i + (k - i) : Nat) : Int) (valF ((s.data.toList.drop i).take (k - i)) : Nat), .int .i64 0]); rw [show i + (k - i) = k by omega, hz trivial]⟩, ((Below.refl _ _).alloc (Nat.le_refl _) _).alloc (by simp) _⟩
        · have HT2 : Hid (tokF (s.data.toList.drop i) = .inl 2) := Lib.hid (HT.out.trans (by rw [hb]; rfl))
          have hnum := hnumb
          rw [hb] at hnum
          clear HT hb hnumb
          rw [tokW_eq]
          go_wp2_with (first | (go_at_call 95; refine (hc _).mono ?_; rintro e w1 ⟨rfl, rfl⟩) | (go_at_call 96; refine (hnum _).mono ?_; rintro e w1 ⟨⟨z, rfl, hz⟩, rfl⟩))
          refine bodyPost_ret (v := .tuple #[tokV 0 0 0 0, .int .i64 2]) (by rw [results_ct rfl]; go_simp; rfl) rfl ?_
          exact ⟨.inl ⟨2, HT2.out, rfl⟩, ((Below.refl _ _).alloc (Nat.le_refl _) _).alloc (by simp) _⟩
      · have HE := Lib.hid (HR.out.trans (run_yes hlt hp))
        rw [hp] at hc
        clear hp HT HN
        have hm2 := endOf_tok w 2 i 0 (k + 1)
        have Hm := Lib.hid hm
        have Hm2 := Lib.hid hm2
        clear hm hm2
        rw [tokW_eq]
        go_wp2_with (go_at_call 95; refine (hc _).mono ?_; rintro e w1 ⟨rfl, rfl⟩)
        go_roundw
        case rel => exact ⟨k + 1, by omega, by omega, HE.out, by unfold tokW; rfl⟩
        case measure =>
          have h1 := Hm.out
          have h2 := Hm2.out
          unfold tokW at h1 h2
          have e : ((k + 1 : Nat) : Int) = (k : Int) + 1 := by omega
          rw [e] at h2
          rw [h1, h2]
          omega
    · have HE := Lib.hid (HR.out.trans (run_end (by omega)))
      rw [HE.out] at HT
      have hnumb := fun w0 => HN.out k w0 HE.out hik hk
      clear hm HN
      cases hb : badF ((s.data.toList.drop i).take (k - i))
      · have HT2 : Hid (tokF (s.data.toList.drop i) = .inr ⟨2, k - i, valF ((s.data.toList.drop i).take (k - i))⟩) := Lib.hid (HT.out.trans (by rw [hb]; rfl))
        have hnum := hnumb
        rw [hb] at hnum
        clear HT hb hnumb
        rw [tokW_eq]
        go_wp2_with (go_at_call 96; refine (hnum _).mono ?_; rintro e w1 ⟨⟨z, rfl, hz⟩, rfl⟩)
        refine bodyPost_ret (v := .tuple #[tokV 2 i k z, .int .i64 0]) (by rw [results_ct rfl]; go_simp; rfl) rfl ?_
        exact ⟨.inr ⟨_, HT2.out, by show _ = Ending.returned (.tuple #[tokV 2 i ((i + (k - i) : Nat) : Int) (valF ((s.data.toList.drop i).take (k - i)) : Nat), .int .i64 0]); rw [show i + (k - i) = k by omega, hz trivial]⟩, ((Below.refl _ _).alloc (Nat.le_refl _) _).alloc (by simp) _⟩
      · have HT2 : Hid (tokF (s.data.toList.drop i) = .inl 2) := Lib.hid (HT.out.trans (by rw [hb]; rfl))
        have hnum := hnumb
        rw [hb] at hnum
        clear HT hb hnumb
        rw [tokW_eq]
        go_wp2_with (go_at_call 96; refine (hnum _).mono ?_; rintro e w1 ⟨⟨z, rfl, hz⟩, rfl⟩)
        refine bodyPost_ret (v := .tuple #[tokV 0 0 0 0, .int .i64 2]) (by rw [results_ct rfl]; go_simp; rfl) rfl ?_
        exact ⟨.inl ⟨2, HT2.out, rfl⟩, ((Below.refl _ _).alloc (Nat.le_refl _) _).alloc (by simp) _⟩

set_option maxHeartbeats 2000000 in
theorem tokenRS_any (s : ByteArray) (i : Nat) (w : World) (hs : s.size ≤ 1000000) (hi : i < s.size) (hl : isLet s[i] = false) (hd : isDgt s[i] = false) :
    Calls Tryz.prog 52 #[.string s, .int .i64 (i : Int)] w fun e w' => TokSays s i e ∧ Below w.heap.size w w' := by
  have hlet := fun w => letterR_any s[i] w
  have hdig := fun w => digitR_any s[i] w
  rw [hl] at hlet
  rw [hd] at hdig
  have hsig := fun w => sign_any s i w hs hi
  have HT := Lib.hid (tok_sign hi hl hd)
  have hle := sign_le (s.data.toList.drop i)
  simp at hle
  generalize signF (s.data.toList.drop i) = R at *
  clear hl hd
  by_cases h0 : R = 0
  · have HT2 := Lib.hid (HT.out.trans (if_pos h0))
    subst h0
    clear HT
    go_enter Tryz.func52, Tryz.ntmps52
    go_wp2_with (first | (go_at_call 92; refine (hlet _).mono ?_; rintro e w1 ⟨rfl, rfl⟩) | (go_at_call 95; refine (hdig _).mono ?_; rintro e w1 ⟨rfl, rfl⟩) | (go_at_call 97; refine (hsig _).mono ?_; rintro e w1 ⟨rfl, rfl⟩))
    refine bodyPost_ret (v := .tuple #[tokV 0 0 0 0, .int .i64 4]) (by rw [results_ct rfl]; go_simp; rfl) rfl ?_
    exact ⟨.inl ⟨4, HT2.out, rfl⟩, ((Below.refl _ _).alloc (Nat.le_refl _) _).alloc (by simp) _⟩
  · have HT2 := Lib.hid (HT.out.trans (if_neg h0))
    have x0 : 0 < (R : Int) := by omega
    clear HT
    go_enter Tryz.func52, Tryz.ntmps52
    go_wp2_with (first | (go_at_call 92; refine (hlet _).mono ?_; rintro e w1 ⟨rfl, rfl⟩) | (go_at_call 95; refine (hdig _).mono ?_; rintro e w1 ⟨rfl, rfl⟩) | (go_at_call 97; refine (hsig _).mono ?_; rintro e w1 ⟨rfl, rfl⟩))
    refine bodyPost_ret (v := .tuple #[tokV 3 i ((i : Int) + R) 0, .int .i64 0]) (by rw [results_ct rfl]; go_simp; rfl) rfl ?_
    exact ⟨.inr ⟨_, HT2.out, by show _ = Ending.returned (.tuple #[tokV 3 i ((i + R : Nat) : Int) 0, .int .i64 0]); rw [Int.natCast_add]⟩, ((Below.refl _ _).alloc (Nat.le_refl _) _).alloc (by simp) _⟩
theorem tokenR_any (s : ByteArray) (i : Nat) (w : World) (hs : s.size ≤ 1000000) (hi : i < s.size) :
    Calls Tryz.prog 52 #[.string s, .int .i64 (i : Int)] w fun e w' => TokSays s i e ∧ Below w.heap.size w w' := by
  cases hl : isLet s[i] with
  | true => exact tokenRW_any s i w hs hi hl
  | false => cases hd : isDgt s[i] with
    | true => exact tokenRN_any s i w hs hi hl hd
    | false => exact tokenRS_any s i w hs hi hl hd
end Go.Proofs.YtokmehjofboflaaGreatDoor
namespace Go.Proofs.YtokmehjofboflaaGreatDoor
open Go.RowKit

theorem gap_bl {s : ByteArray} {k : Nat} (h : k < s.size) (hb : isBl s[k] = true) : gapC false s k = gapC false s (k + 1) := by
  have h1 : nextC false s[k] = false := by
    unfold nextC
    simp [isBl] at hb
    rcases hb with ((e | e) | e) | e <;> rw [e] <;> rfl
  rw [gap_yes h (by simp [hb]), h1]
theorem gap_hash {s : ByteArray} {k : Nat} (h : k < s.size) (hb : (s[k] == 35) = true) : gapC false s k = gapC true s k := by
  have h1 : ∀ c, nextC c s[k] = true := fun c => by simp [nextC, hb]
  rw [gap_yes h (by simp [h1]), gap_yes h (by simp [h1]), h1, h1]
theorem gap_in {s : ByteArray} {k : Nat} (h : k < s.size) (hb : (s[k] != 10) = true) : gapC true s k = gapC true s (k + 1) := by
  have h1 : nextC true s[k] = true := by simp [nextC, hb]
  rw [gap_yes h (by simp [h1]), h1]
theorem gap_lf {s : ByteArray} {k : Nat} (h : k < s.size) (hb : (s[k] != 10) = false) : gapC true s k = gapC false s k := by
  have e : s[k] = 10 := by simpa using hb
  have h1 : ∀ c, nextC c s[k] = false := fun c => by rw [e]; simp [nextC]
  have h2 : isBl s[k] = true := by rw [e]; rfl
  rw [gap_yes h (by simp [h2]), gap_yes h (by simp [h2]), h1, h1]
theorem gap_stay {s : ByteArray} {k : Nat} (h : k < s.size) (h1 : isBl s[k] = false) (h2 : (s[k] == 35) = false) : gapC false s k = k := gap_no h (by simp [nextC, h1, h2])
theorem bl_of {b : UInt8} (h : (b == 32) = true ∨ (b == 9) = true ∨ (b == 10) = true ∨ (b == 13) = true) : isBl b = true := by
  simp [isBl]
  simp at h
  rcases h with h | h | h | h <;> simp [h]
theorem bl_not {b : UInt8} (h1 : (b == 32) = false) (h2 : (b == 9) = false) (h3 : (b == 10) = false) (h4 : (b == 13) = false) : isBl b = false := by simp [isBl, h1, h2, h3, h4]
theorem bl_hash {b : UInt8} (h1 : (b == 35) = true) : (b == 32) = false ∧ (b == 9) = false ∧ (b == 10) = false ∧ (b == 13) = false := by
  have e : b = 35 := by simpa using h1
  subst e
  exact ⟨rfl, rfl, rfl, rfl⟩
set_option maxHeartbeats 2000000 in
theorem blanks_any (s : ByteArray) (i : Nat) (w : World) (hs : s.size ≤ 1000000) (hi : i ≤ s.size) :
    Calls Tryz.prog 51 #[.string s, .int .i64 (i : Int)] w fun e w' => e = .returned (.int .i64 (gapAt s i : Nat)) ∧ w' = w := by
  have HG : Hid (gapAt s i = gapC false s i) := Lib.hid rfl
  go_enter Tryz.func51, Tryz.ntmps51
  go_wp2
  go_loopw [1] (fun t wr => ∃ k : Nat, k ≤ s.size ∧ t = .int .i64 k ∧ gapAt s i = gapC false s k ∧ wr = w) (fun t _ => s.size - (intOf t).toNat)
  case atStart => exact ⟨i, hi, rfl, HG.out, rfl⟩
  case round =>
    clear HG
    obtain ⟨k, hk, rfl, hR, rfl⟩ := hrel
    have HR := Lib.hid hR
    clear hR
    by_cases hlt : k < s.size
    · have h32 : ((s[k].toNat : Int) == 32) = (s[k] == 32) := byte_eq s[k] 32 (by decide)
      have h9 : ((s[k].toNat : Int) == 9) = (s[k] == 9) := byte_eq s[k] 9 (by decide)
      have h10 : ((s[k].toNat : Int) == 10) = (s[k] == 10) := byte_eq s[k] 10 (by decide)
      have h13 : ((s[k].toNat : Int) == 13) = (s[k] == 13) := byte_eq s[k] 13 (by decide)
      have h35 : ((s[k].toNat : Int) == 35) = (s[k] == 35) := byte_eq s[k] 35 (by decide)
      have HB : Hid (((s[k] == 32) = true ∨ (s[k] == 9) = true ∨ (s[k] == 10) = true ∨ (s[k] == 13) = true) → gapAt s i = gapC false s (k + 1)) := Lib.hid fun h => HR.out.trans (gap_bl hlt (bl_of h))
      have HS : Hid ((s[k] == 32) = false → (s[k] == 9) = false → (s[k] == 10) = false → (s[k] == 13) = false → (s[k] == 35) = false → gapAt s i = k) := Lib.hid fun h1 h2 h3 h4 h5 => HR.out.trans (gap_stay hlt (bl_not h1 h2 h3 h4) h5)
      have HH : Hid ((s[k] == 35) = true → gapAt s i = gapC true s k) := Lib.hid fun h1 => HR.out.trans (gap_hash hlt h1)
      have HN : Hid ((s[k] == 35) = true → (s[k] != 10) = true) := Lib.hid fun h1 => by simp only [bne, (bl_hash h1).2.2.1]; rfl
      generalize hp : (s[k] == 32) = p at h32 HB HS
      generalize hq : (s[k] == 9) = q at h9 HB HS
      generalize hr : (s[k] == 10) = r at h10 HB HS
      generalize ht : (s[k] == 13) = t at h13 HB HS
      generalize hu : (s[k] == 35) = u at h35 HS HH HN
      have Hu := Lib.hid hu
      clear hp hq hr ht hu
      cases p
      · cases q
        · cases r
          · cases t
            · cases u
              · have HE := Lib.hid (HS.out rfl rfl rfl rfl rfl)
                go_wp2
                go_ret
                exact ⟨ret_int (by rw [HE.out]), rfl⟩
              · have HE := Lib.hid (HH.out rfl)
                have HN2 := Lib.hid (HN.out rfl)
                clear HS HH HB
                go_wp2
                go_loopw [1] (fun t wo => ∃ j : Nat, k ≤ j ∧ j ≤ s.size ∧ t = .int .i64 j ∧ gapAt s i = gapC true s j ∧ wo = wr) (fun t _ => s.size - (intOf t).toNat)
                case atStart => exact ⟨k, Nat.le_refl _, hk, rfl, HE.out, rfl⟩
                case round =>
                  clear HE h32 h9 h10 h13 h35
                  obtain ⟨j, hkj, hj, rfl, hR2, rfl⟩ := hrel
                  have HR2 := Lib.hid hR2
                  clear hR2
                  by_cases hlt2 : j < s.size
                  · have h10 : ((s[j].toNat : Int) != 10) = (s[j] != 10) := congrArg not (byte_eq s[j] 10 (by decide))
                    cases hx : s[j] != 10
                    · have HE := Lib.hid (HR2.out.trans (gap_lf hlt2 hx))
                      rw [hx] at h10
                      have hjk : k < j := by
                        rcases Nat.lt_or_ge k j with h | h
                        · exact h
                        · obtain rfl : j = k := by omega
                          exact absurd HN2.out (by rw [hx]; simp)
                      clear hx
                      go_wp2
                      go_roundw
                      case rel => exact ⟨j, by omega, rfl, HE.out, by trivial⟩
                      case measure => simp [intOf]; omega
                    · have HE := Lib.hid (HR2.out.trans (gap_in hlt2 hx))
                      rw [hx] at h10
                      clear hx
                      go_wp2
                      go_roundw
                      case rel => exact ⟨j + 1, by omega, by omega, by go_num, HE.out, by trivial⟩
                      case measure => simp [intOf]; omega
                  · obtain rfl : j = s.size := by omega
                    have HE := Lib.hid (HR2.out.trans ((gap_end (c := true) (Nat.le_refl _)).trans (gap_end (c := false) (Nat.le_refl _)).symm))
                    go_wp2
                    go_roundw
                    case rel => exact ⟨s.size, Nat.le_refl _, rfl, HE.out, by trivial⟩
                    case measure => simp [intOf]; omega
            · have HE := Lib.hid (HB.out (by simp))
              go_wp2
              go_roundw
              case rel => exact ⟨k + 1, by omega, by go_num, HE.out, by trivial⟩
              case measure => simp [intOf]; omega
          · have HE := Lib.hid (HB.out (by simp))
            go_wp2
            go_roundw
            case rel => exact ⟨k + 1, by omega, by go_num, HE.out, by trivial⟩
            case measure => simp [intOf]; omega
        · have HE := Lib.hid (HB.out (by simp))
          go_wp2
          go_roundw
          case rel => exact ⟨k + 1, by omega, by go_num, HE.out, by trivial⟩
          case measure => simp [intOf]; omega
      · have HE := Lib.hid (HB.out (by simp))
        go_wp2
        go_roundw
        case rel => exact ⟨k + 1, by omega, by go_num, HE.out, by trivial⟩
        case measure => simp [intOf]; omega
    · have HE := Lib.hid (HR.out.trans (gap_end (by omega)))
      go_wp2
      go_ret
      exact ⟨ret_int (by rw [HE.out]), rfl⟩
end Go.Proofs.YtokmehjofboflaaGreatDoor
namespace Go.Proofs.YtokmehjofboflaaGreatDoor
set_option maxRecDepth 100000
open Go.RowKit

def tokCells (ts : List Tok) : List Value := ts.flatMap fun t => [.int .i64 (t.kind : Int), .int .i64 (t.at_ : Int), .int .i64 (t.end_ : Int), .int .i64 (t.num : Int)]
theorem tokCells_len (ts : List Tok) : (tokCells ts).length = ts.length * 4 := by
  induction ts with
  | nil => rfl
  | cons t ts ih =>
    have e : tokCells (t :: ts) = .int .i64 (t.kind : Int) :: .int .i64 (t.at_ : Int) :: .int .i64 (t.end_ : Int) :: .int .i64 (t.num : Int) :: tokCells ts := rfl
    rw [e]
    simp [ih]
    omega
theorem tokCells_snoc (ts : List Tok) (t : Tok) : tokCells (ts ++ [t]) = tokCells ts ++ [.int .i64 (t.kind : Int), .int .i64 (t.at_ : Int), .int .i64 (t.end_ : Int), .int .i64 (t.num : Int)] := by simp [tokCells]
/-- the row of the tokens ts, that the call owns -/
def TokRow (base : Nat) (w : World) (v : Value) (ts : List Tok) : Prop := w.ownsRow base 68 4 v ts.length (tokCells ts)
/-- what a scan answers -/
def ScanSays (x : (Nat × Nat) ⊕ List Tok) (base : Nat) (e : Ending) (w' : World) : Prop :=
  match x with
  | .inl (p, f) => e = .returned (.tuple #[.slice none 0 0, .int .i64 (p : Int), .int .i64 (f : Int)])
  | .inr ts => ∃ v, e = .returned (.tuple #[v, .int .i64 0, .int .i64 0]) ∧ TokRow base w' v ts
theorem infoTok : (Tryz.prog.info? 68).map (fun i => (i.zero, i.size, i.bytes)) = some (some (.agg #[.int .i64 0, .int .i64 0, .int .i64 0, .int .i64 0]), 4, 32) := by kernel_rfl
theorem new_cells (w : World) (cs : Array Value) (t : TypeId) (j : Nat) (u : Value) (h : cs.toList[j]? = some u) : (w.alloc (.cells cs t)).cell? ((⟨w.heap.size, 0, none⟩ : Addr).add j) = some u := by
  rw [add_none, Nat.zero_add, World.cell?_alloc_new]
  simpa using h
theorem new_cells2 (w : World) (o : Obj) (cs : Array Value) (t : TypeId) (j : Nat) (u : Value) (h : cs.toList[j]? = some u) : ((w.alloc o).alloc (.cells cs t)).cell? ((⟨w.heap.size + 1, 0, none⟩ : Addr).add j) = some u := by
  have := new_cells (w.alloc o) cs t j u h
  simpa using this
theorem own_slice {w : World} {base : Nat} {e : TypeId} {s : Nat} {v : Value} {n : Nat} {xs : List Value} (h : w.ownsRow base e s v n xs) : ∃ a c, v = .slice a n c ∧ n ≤ maxLen ∧ (0 < n → ∃ g, a = some ⟨g, 0, none⟩ ∧ g < w.heap.size) := by
  rcases h.2 with ⟨rfl, rfl⟩ | ⟨g, cap, cur, rfl, _, hg, h1, h2, _⟩
  · exact ⟨none, 0, rfl, by unfold maxLen; omega, fun h => absurd h (by omega)⟩
  · exact ⟨some ⟨g, 0, none⟩, cap, rfl, by omega, fun _ => ⟨g, rfl, (Array.getElem?_eq_some_iff.1 hg).1⟩⟩
theorem own_cell {w : World} {base : Nat} {e : TypeId} {s : Nat} {g n c : Nat} {xs : List Value} (h : w.ownsRow base e s (.slice (some ⟨g, 0, none⟩) n c) n xs) {j : Nat} {u : Value} (hu : xs[j]? = some u) : w.cell? ⟨g, 0 + j, none⟩ = some u := by
  have := World.ownsRow.cells h (g := g) rfl j u hu
  rw [add_none] at this
  exact this
theorem own_below {w w' : World} {base B : Nat} {e : TypeId} {s : Nat} {v : Value} {n : Nat} {xs : List Value} (h : w.ownsRow base e s v n xs) (hb : Below B w w') (hB : B = w.heap.size) : w'.ownsRow base e s v n xs := by
  subst hB
  exact World.ownsRow.kept h (row := none) ⟨hb.os, hb.tape, hb.output, hb.size, fun k hk _ => hb.block k hk⟩ (by cases Value.ownBlock _ <;> simp)
theorem tok_errs {l : Bytes} {f : Nat} (h : tokF l = .inl f) : f = 4 ∨ f = 5 ∨ f = 2 := by
  unfold tokF at h
  split at h
  · injection h with h; exact .inl h.symm
  · split at h
    · split at h
      · injection h with h; exact .inr (.inl h.symm)
      · cases h
    · split at h
      · split at h
        · injection h with h; exact .inr (.inr h.symm)
        · cases h
      · split at h
        · injection h with h; exact .inl h.symm
        · cases h
/-- the scan so far: the tokens ts stand before place j, at which there is no gap -/
def Sofar (s : ByteArray) (ts : List Tok) (j : Nat) : Prop := scanB s.data.toList = andThen ts (scanR ts.length j (s.data.toList.drop j))
theorem Sofar.start {s : ByteArray} (h : s.size ≤ 16384) : Sofar s [] (gapAt s 0) := by
  unfold Sofar scanB gapAt
  rw [if_neg (by simp; omega), andThen_nil, scanG_R]
  simp
theorem Sofar.full {s : ByteArray} {ts : List Tok} {j : Nat} (h : Sofar s ts j) (hj : j < s.size) (h4 : ts.length = 4096) : scanB s.data.toList = .inl (j, 3) := by
  unfold Sofar at h
  rw [h]
  unfold scanR
  rw [if_neg (by rw [drop_at s hj]; simp), if_pos h4]
  rfl
theorem Sofar.bad {s : ByteArray} {ts : List Tok} {j f : Nat} (h : Sofar s ts j) (hj : j < s.size) (h4 : ts.length ≠ 4096) (hf : tokF (s.data.toList.drop j) = .inl f) : scanB s.data.toList = .inl (j, f) := by
  unfold Sofar at h
  rw [h]
  unfold scanR
  rw [if_neg (by rw [drop_at s hj]; simp), if_neg h4, hf]
  rfl
theorem Sofar.next {s : ByteArray} {ts : List Tok} {j : Nat} {t : Tk} (h : Sofar s ts j) (h4 : ts.length ≠ 4096) (ht : tokF (s.data.toList.drop j) = .inr t) : Sofar s (ts ++ [tokOf j t]) (gapAt s (j + t.len)) := by
  unfold Sofar at h ⊢
  rw [h, scanR_tok ht h4, ← andThen_app, scanG_R, List.drop_drop, List.drop_drop]
  unfold gapAt
  simp only [List.length_append, List.length_singleton]
theorem Sofar.done {s : ByteArray} {ts : List Tok} {j : Nat} (h : Sofar s ts j) (hj : s.size ≤ j) : scanB s.data.toList = .inr ts := by
  unfold Sofar at h
  rw [h, drop_end s hj]
  simp [scanR, andThen]
theorem scan_long {s : ByteArray} (h : 16384 < s.size) : scanB s.data.toList = .inl (0, 3) := by
  unfold scanB
  rw [if_pos (by simpa using h)]

set_option maxRecDepth 100000 in
set_option maxHeartbeats 4000000 in
theorem scan_any (s : ByteArray) (w : World) :
    Calls Tryz.prog 20 #[.string s] w fun e w' => ScanSays (scanB s.data.toList) w.heap.size e w' ∧ Below w.heap.size w w' := by
  obtain ⟨i0, hi, hz0, hz1, hz2⟩ := info_parts infoTok
  by_cases hs : 16384 < s.size
  · rw [scan_long hs]
    go_enter Tryz.func20, Tryz.ntmps20
    go_wp2
    go_ret3
    exact ⟨rfl, Below.refl _ _⟩
  have HSO := Lib.hid (Sofar.start (s := s) (by omega))
  have hgap := fun w0 => behindGap_any s 0 w0 (by omega) (Nat.zero_le _)
  obtain ⟨_, hg2⟩ := gapAt_le s (i := 0) (Nat.zero_le _)
  generalize gapAt s 0 = g at *
  go_enter Tryz.func20, Tryz.ntmps20
  go_wp2_with (go_at_call 37; refine (hgap _).mono ?_; rintro e w1 ⟨rfl, hb1⟩; have HB1 := Lib.hid hb1; clear hb1)
  clear hgap
  go_loopw [5, 6] (fun q t wr => ∃ (ts : List Tok) (j : Nat), j ≤ s.size ∧ t = .int .i64 j ∧ ts.length ≤ 4096 ∧ TokRow w.heap.size wr q ts ∧ Sofar s ts j ∧ Below w.heap.size w wr) (fun _ t _ => s.size - (intOf t).toNat)
  case atStart => exact ⟨[], g, hg2, rfl, Nat.zero_le _, World.ownsRow_nil _ _ _ _, HSO.out, HB1.out⟩
  case round =>
    clear HSO HB1
    obtain ⟨ts, j, hj, rfl, hts, hR, hS, hbel⟩ := hrel
    have HS := Lib.hid hS
    have hsz := hbel.size
    obtain ⟨qa, qc, rfl, hqm, _⟩ := own_slice hR
    have HR := Lib.hid hR
    have Hbel := Lib.hid hbel
    clear hS hbel hR
    by_cases hlt : j < s.size
    · by_cases h4 : ts.length = 4096
      · have HF := Lib.hid (HS.out.full hlt h4)
        have e4 : ((ts.length : Int) == 4096) = true := by simp; omega
        go_wp2
        go_ret3
        rw [HF.out]
        exact ⟨rfl, Hbel.out⟩
      · have e4 : ((ts.length : Int) == 4096) = false := by simp; omega
        have htk := fun w0 => token_any s j w0 (by omega) hlt
        cases ht : tokF (s.data.toList.drop j) with
        | inl f =>
          have HF := Lib.hid (HS.out.bad hlt h4 ht)
          have hf := tok_errs ht
          have hcall : ∀ w0, Calls Tryz.prog 38 #[.string s, .int .i64 (j : Int)] w0 fun e w' => e = .returned (.tuple #[tokV 0 0 0 0, .int .i64 (f : Int)]) ∧ Below w0.heap.size w0 w' := fun w0 => (htk w0).mono fun e w' ⟨h1, h2⟩ => ⟨(by
            rcases h1 with ⟨g, h1, h3⟩ | ⟨t, h1, _⟩
            · rw [ht] at h1
              injection h1 with h1
              rw [h1]; exact h3
            · rw [ht] at h1; cases h1), h2⟩
          have hf0 : ((f : Int) != 0) = true := by simp; omega
          unfold tokV at hcall
          clear htk ht hf
          go_wp2_with (go_at_call 38; refine (hcall _).mono ?_; rintro e w2 ⟨rfl, hb2⟩; have HB2 := Lib.hid (Hbel.out.trans (hb2.mono Hbel.out.size)); clear hb2)
          go_ret3
          rw [HF.out]
          exact ⟨rfl, HB2.out.alloc HB2.out.size _⟩
        | inr t =>
          have HN := Lib.hid (HS.out.next h4 ht)
          have htl := tok_len ht
          simp at htl
          obtain ⟨E, hE⟩ : ∃ E, j + t.len = E := ⟨_, rfl⟩
          have hcall : ∀ w0, Calls Tryz.prog 38 #[.string s, .int .i64 (j : Int)] w0 fun e w' => e = .returned (.tuple #[tokV t.kind j E t.num, .int .i64 0]) ∧ Below w0.heap.size w0 w' := fun w0 => (htk w0).mono fun e w' ⟨h1, h2⟩ => ⟨(by
            rcases h1 with ⟨g, h1, _⟩ | ⟨u, h1, h3⟩
            · rw [ht] at h1; cases h1
            · rw [ht] at h1
              injection h1 with h1
              subst h1; rw [← hE]; exact h3), h2⟩
          rw [hE] at HN
          have HT : Hid (tokOf j t = ⟨t.kind, j, E, t.num⟩) := Lib.hid (by rw [← hE]; rfl)
          have hgap2 := fun w0 => behindGap_any s E w0 (by omega) (by omega)
          obtain ⟨hg3, hg4⟩ := gapAt_le s (i := E) (by omega)
          have hjE : j < E := by omega
          unfold tokV at hcall
          clear htk ht htl hE
          generalize gapAt s E = G at *
          go_wp2_with (first | (go_at_call 38; refine (hcall _).mono ?_; rintro e w2 ⟨rfl, hb2⟩; have hR2 := own_below HR.out hb2 rfl; have hsz2 := (Hbel.out.trans (hb2.mono Hbel.out.size)).size) | (at_builtin; refine wpList_append_own _ rfl (.tmp 32) (.tmp 34) 39 rfl w.heap.size 68 i0 (.agg #[.int .i64 0, .int .i64 0, .int .i64 0, .int .i64 0]) 4 32 Tryz.underlying39 hi hz0 hz1 hz2 rfl (by decide) _ _ _ rfl ((hR2.alloc _).alloc _) ⟨w2.heap.size + 1, 0, none⟩ 1 1 [.int .i64 (t.kind : Int), .int .i64 (j : Int), .int .i64 (E : Int), .int .i64 (t.num : Int)] rfl rfl (new_cells2 _ _ #[.int .i64 (t.kind : Int), .int .i64 (j : Int), .int .i64 (E : Int), .int .i64 (t.num : Int)] _) (by intro u hu; simp at hu; rcases hu with rfl | rfl | rfl | rfl <;> rfl) (by unfold maxLen; omega) (by omega) (by simp; omega) ?_; intro v6 w6 hown6 hgrow6 hnil6; have hend : w6.cell? ⟨w2.heap.size, 2, none⟩ = some (.int .i64 (E : Int)) := hgrow6.cell (by simp [cell_push']) (fun e => by have := (hR2.lt _ e.symm).2; simp at this)) | (go_at_call 37; refine (hgap2 _).mono ?_; rintro e w7 ⟨rfl, hb7⟩))
          go_roundw
          case rel =>
            have hB6 := Below.grown (((Hbel.out.trans (hb2.mono Hbel.out.size)).alloc hsz2 _).alloc (by simp; omega) _) hgrow6 (by simp; omega) (fun k hk => (hR2.lt k hk).1)
            refine ⟨ts ++ [tokOf j t], G, hg4, rfl, by simp; omega, ?_, HN.out, hB6.trans (hb7.mono hB6.size)⟩
            unfold TokRow
            rw [List.length_append, List.length_singleton, tokCells_snoc, HT.out]
            exact own_below hown6 hb7 rfl
          case measure => simp [intOf]; omega
    · have HF := Lib.hid (HS.out.done (by omega))
      go_wp2
      go_ret3
      rw [HF.out]
      exact ⟨⟨_, rfl, HR.out⟩, Hbel.out⟩

set_option maxRecDepth 100000 in
set_option maxHeartbeats 4000000 in
theorem scanR_any (s : ByteArray) (w : World) :
    Calls Tryz.prog 24 #[.string s] w fun e w' => ScanSays (scanB s.data.toList) w.heap.size e w' ∧ Below w.heap.size w w' := by
  obtain ⟨i0, hi, hz0, hz1, hz2⟩ := info_parts infoTok
  by_cases hs : 16384 < s.size
  · rw [scan_long hs]
    go_enter Tryz.func24, Tryz.ntmps24
    go_wp2
    go_ret3
    exact ⟨rfl, Below.refl _ _⟩
  have HSO := Lib.hid (Sofar.start (s := s) (by omega))
  have hgap := fun w0 => blanks_any s 0 w0 (by omega) (Nat.zero_le _)
  obtain ⟨_, hg2⟩ := gapAt_le s (i := 0) (Nat.zero_le _)
  generalize gapAt s 0 = g at *
  go_enter Tryz.func24, Tryz.ntmps24
  go_wp2_with (go_at_call 51; refine (hgap _).mono ?_; rintro e w1 ⟨rfl, hw1⟩; have HB1 : Hid (Below w.heap.size w w1) := Lib.hid (by rw [hw1]; exact Below.refl _ _); clear hw1)
  clear hgap
  go_loopw [5, 6] (fun q t wr => ∃ (ts : List Tok) (j : Nat), j ≤ s.size ∧ t = .int .i64 j ∧ ts.length ≤ 4096 ∧ TokRow w.heap.size wr q ts ∧ Sofar s ts j ∧ Below w.heap.size w wr) (fun _ t _ => s.size - (intOf t).toNat)
  case atStart => exact ⟨[], g, hg2, rfl, Nat.zero_le _, World.ownsRow_nil _ _ _ _, HSO.out, HB1.out⟩
  case round =>
    clear HSO HB1
    obtain ⟨ts, j, hj, rfl, hts, hR, hS, hbel⟩ := hrel
    have HS := Lib.hid hS
    have hsz := hbel.size
    obtain ⟨qa, qc, rfl, hqm, _⟩ := own_slice hR
    have HR := Lib.hid hR
    have Hbel := Lib.hid hbel
    clear hS hbel hR
    by_cases hlt : j < s.size
    · by_cases h4 : ts.length = 4096
      · have HF := Lib.hid (HS.out.full hlt h4)
        have e4 : ((ts.length : Int) == 4096) = true := by simp; omega
        go_wp2
        go_ret3
        rw [HF.out]
        exact ⟨rfl, Hbel.out⟩
      · have e4 : ((ts.length : Int) == 4096) = false := by simp; omega
        have htk := fun w0 => tokenR_any s j w0 (by omega) hlt
        cases ht : tokF (s.data.toList.drop j) with
        | inl f =>
          have HF := Lib.hid (HS.out.bad hlt h4 ht)
          have hf := tok_errs ht
          have hcall : ∀ w0, Calls Tryz.prog 52 #[.string s, .int .i64 (j : Int)] w0 fun e w' => e = .returned (.tuple #[tokV 0 0 0 0, .int .i64 (f : Int)]) ∧ Below w0.heap.size w0 w' := fun w0 => (htk w0).mono fun e w' ⟨h1, h2⟩ => ⟨(by
            rcases h1 with ⟨g, h1, h3⟩ | ⟨t, h1, _⟩
            · rw [ht] at h1
              injection h1 with h1
              rw [h1]; exact h3
            · rw [ht] at h1; cases h1), h2⟩
          have hf0 : ((f : Int) != 0) = true := by simp; omega
          unfold tokV at hcall
          clear htk ht hf
          go_wp2_with (go_at_call 52; refine (hcall _).mono ?_; rintro e w2 ⟨rfl, hb2⟩; have HB2 := Lib.hid (Hbel.out.trans (hb2.mono Hbel.out.size)); clear hb2)
          go_ret3
          rw [HF.out]
          exact ⟨rfl, HB2.out.alloc HB2.out.size _⟩
        | inr t =>
          have HN := Lib.hid (HS.out.next h4 ht)
          have htl := tok_len ht
          simp at htl
          obtain ⟨E, hE⟩ : ∃ E, j + t.len = E := ⟨_, rfl⟩
          have hcall : ∀ w0, Calls Tryz.prog 52 #[.string s, .int .i64 (j : Int)] w0 fun e w' => e = .returned (.tuple #[tokV t.kind j E t.num, .int .i64 0]) ∧ Below w0.heap.size w0 w' := fun w0 => (htk w0).mono fun e w' ⟨h1, h2⟩ => ⟨(by
            rcases h1 with ⟨g, h1, _⟩ | ⟨u, h1, h3⟩
            · rw [ht] at h1; cases h1
            · rw [ht] at h1
              injection h1 with h1
              subst h1; rw [← hE]; exact h3), h2⟩
          rw [hE] at HN
          have HT : Hid (tokOf j t = ⟨t.kind, j, E, t.num⟩) := Lib.hid (by rw [← hE]; rfl)
          have hgap2 := fun w0 => blanks_any s E w0 (by omega) (by omega)
          obtain ⟨hg3, hg4⟩ := gapAt_le s (i := E) (by omega)
          have hjE : j < E := by omega
          unfold tokV at hcall
          clear htk ht htl hE
          generalize gapAt s E = G at *
          go_wp2_with (first | (go_at_call 52; refine (hcall _).mono ?_; rintro e w2 ⟨rfl, hb2⟩; have hR2 := own_below HR.out hb2 rfl; have hsz2 := (Hbel.out.trans (hb2.mono Hbel.out.size)).size) | (at_builtin; refine wpList_append_own _ rfl (.tmp 35) (.tmp 37) 39 rfl w.heap.size 68 i0 (.agg #[.int .i64 0, .int .i64 0, .int .i64 0, .int .i64 0]) 4 32 Tryz.underlying39 hi hz0 hz1 hz2 rfl (by decide) _ _ _ rfl ((hR2.alloc _).alloc _) ⟨w2.heap.size + 1, 0, none⟩ 1 1 [.int .i64 (t.kind : Int), .int .i64 (j : Int), .int .i64 (E : Int), .int .i64 (t.num : Int)] rfl rfl (new_cells2 _ _ #[.int .i64 (t.kind : Int), .int .i64 (j : Int), .int .i64 (E : Int), .int .i64 (t.num : Int)] _) (by intro u hu; simp at hu; rcases hu with rfl | rfl | rfl | rfl <;> rfl) (by unfold maxLen; omega) (by omega) (by simp; omega) ?_; intro v6 w6 hown6 hgrow6 hnil6; have hend : w6.cell? ⟨w2.heap.size, 2, none⟩ = some (.int .i64 (E : Int)) := hgrow6.cell (by simp [cell_push']) (fun e => by have := (hR2.lt _ e.symm).2; simp at this)) | (go_at_call 51; refine (hgap2 _).mono ?_; rintro e w7 ⟨rfl, hw7⟩; subst hw7))
          go_roundw
          case rel =>
            have hB6 := Below.grown (((Hbel.out.trans (hb2.mono Hbel.out.size)).alloc hsz2 _).alloc (by simp; omega) _) hgrow6 (by simp; omega) (fun k hk => (hR2.lt k hk).1)
            refine ⟨ts ++ [tokOf j t], G, hg4, rfl, by simp; omega, ?_, HN.out, hB6⟩
            unfold TokRow
            rw [List.length_append, List.length_singleton, tokCells_snoc, HT.out]
            exact hown6
          case measure => simp [intOf]; omega
    · have HF := Lib.hid (HS.out.done (by omega))
      go_wp2
      go_ret3
      rw [HF.out]
      exact ⟨⟨_, rfl, HR.out⟩, Hbel.out⟩
end Go.Proofs.YtokmehjofboflaaGreatDoor
