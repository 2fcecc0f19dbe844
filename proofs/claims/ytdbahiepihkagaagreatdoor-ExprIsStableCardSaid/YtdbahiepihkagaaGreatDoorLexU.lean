/- What token of the specification answers. -/
import Derived.Test.YtdbahiepihkagaaGreatDoorLexV
namespace Go.Proofs.YtdbahiepihkagaaGreatDoor
set_option maxRecDepth 100000
open Go.RowKit

theorem cell_push' (w : World) (c : Array Value) (t : TypeId) (b i : Nat) : (w.alloc (.cells c t)).cell? ⟨b, i, none⟩ = if b = w.heap.size then c[i]? else w.cell? ⟨b, i, none⟩ := by
  split
  · rename_i h; rw [h]; exact World.cell?_alloc_new w c t i
  · rename_i h; exact World.cell?_alloc_old w _ _ h
theorem free_push' (w : World) (c : Array Value) (t : TypeId) (b i : Nat) : (w.alloc (.cells c t)).frozen? ⟨b, i, none⟩ = if b = w.heap.size then false else w.frozen? ⟨b, i, none⟩ := by
  split
  · rename_i h; rw [h]; exact World.frozen?_alloc_new w c t i
  · rename_i h; exact World.frozen?_alloc_old w _ _ h
theorem results_ct {fn : Func} {p u : Tmp} {ty : TypeId} (h : fn.results = #[.cell p ty, .tmp u]) (tmps : Array Value) (P : Program) (w : World) :
    (results fn tmps).run P w =
      ((asAddr (tmps.getD p undef)).run P w).andThen fun a w₁ => ((loadVar ty a).run P w₁).andThen fun x w₂ => .ok (.tuple #[x, tmps.getD u undef]) w₂ := by
  simp only [results, h]
  simp [Sem.run_bind, Result.andThen]

def tokV (k a e n : Int) : Value := .agg #[.int .i64 k, .int .i64 a, .int .i64 e, .int .i64 n]
/-- what token answers at place i -/
def TokSays (s : ByteArray) (i : Nat) (e : Ending) : Prop :=
  (∃ f : Nat, tokF (s.data.toList.drop i) = .inl f ∧ e = .returned (.tuple #[tokV 0 0 0 0, .int .i64 (f : Int)])) ∨
  (∃ t : Tk, tokF (s.data.toList.drop i) = .inr t ∧ e = .returned (.tuple #[tokV t.kind i ((i + t.len : Nat) : Int) t.num, .int .i64 0]))
theorem tok_word {s : ByteArray} {i : Nat} (h : i < s.size) (hl : isLet s[i] = true) : tokF (s.data.toList.drop i) = if 24 < runAt isIn s i - i then .inl 5 else .inr ⟨1, runAt isIn s i - i, 0⟩ := by
  unfold runAt
  rw [Nat.add_sub_cancel_left, drop_at s h]
  unfold tokF
  dsimp only
  rw [if_pos hl]
theorem tok_num {s : ByteArray} {i : Nat} (h : i < s.size) (hl : isLet s[i] = false) (hd : isDgt s[i] = true) : tokF (s.data.toList.drop i) = if badF ((s.data.toList.drop i).take (runAt isDgt s i - i)) then .inl 2 else .inr ⟨2, runAt isDgt s i - i, valF ((s.data.toList.drop i).take (runAt isDgt s i - i))⟩ := by
  unfold runAt
  rw [Nat.add_sub_cancel_left, drop_at s h]
  have h1 : runF isDgt (s[i] :: s.data.toList.drop (i + 1)) = runF isDgt (s.data.toList.drop (i + 1)) + 1 := by rw [runF, if_pos hd]
  have h2 := run_le isDgt (s.data.toList.drop (i + 1))
  have e : badF ((s[i] :: s.data.toList.drop (i + 1)).take (runF isDgt (s[i] :: s.data.toList.drop (i + 1)))) = ((s[i] == 48 && decide (1 < runF isDgt (s[i] :: s.data.toList.drop (i + 1)))) || decide (1073741824 < valF ((s[i] :: s.data.toList.drop (i + 1)).take (runF isDgt (s[i] :: s.data.toList.drop (i + 1)))))) := by
    unfold badF
    congr 2
    · rw [h1, List.take_succ_cons]
      rfl
    · rw [h1, List.take_succ_cons, List.length_cons, List.length_take, Nat.min_eq_left h2]
  rw [e]
  unfold tokF
  dsimp only
  rw [if_neg (by simp [hl]), if_pos hd]
theorem tok_sign {s : ByteArray} {i : Nat} (h : i < s.size) (hl : isLet s[i] = false) (hd : isDgt s[i] = false) : tokF (s.data.toList.drop i) = if signF (s.data.toList.drop i) = 0 then .inl 4 else .inr ⟨3, signF (s.data.toList.drop i), 0⟩ := by
  rw [drop_at s h]
  unfold tokF
  dsimp only
  rw [if_neg (by simp [hl]), if_neg (by simp [hd])]

set_option maxHeartbeats 2000000 in
theorem tokenW_any (s : ByteArray) (i : Nat) (w : World) (hs : s.size ≤ 1000000) (hi : i < s.size) (hl : isLet s[i] = true) :
    Calls Tryz.prog 99 #[.string s, .int .i64 (i : Int)] w fun e w' => TokSays s i e ∧ Below w.heap.size w w' := by
  have hlet := fun w => letter_any s[i] w
  rw [hl] at hlet
  have hbeh := fun w => behind_in s i w hs (by omega)
  have HT := Lib.hid (tok_word hi hl)
  obtain ⟨hE1, hE2⟩ := runAt_le isIn s (i := i) (by omega)
  generalize runAt isIn s i = E at *
  by_cases h24 : 24 < E - i
  · have HT2 := Lib.hid (HT.out.trans (if_pos h24))
    have h1 : 24 < (E : Int) - i := by omega
    clear HT hl
    go_enter Tryz.func99, Tryz.ntmps99
    go_wp2_with (first | (go_at_call 123; refine (hlet _).mono ?_; rintro e w1 ⟨rfl, rfl⟩) | (go_at_call 124; refine (hbeh _).mono ?_; rintro e w1 ⟨rfl, rfl⟩))
    refine bodyPost_ret (v := .tuple #[tokV 0 0 0 0, .int .i64 5]) (by rw [results_ct rfl]; go_simp; rfl) rfl ?_
    refine ⟨.inl ⟨5, HT2.out, rfl⟩, ?_⟩
    exact ((Below.refl _ _).alloc (Nat.le_refl _) _).alloc (by simp) _
  · have HT2 := Lib.hid (HT.out.trans (if_neg h24))
    have h1 : ¬ 24 < (E : Int) - i := by omega
    clear HT hl
    go_enter Tryz.func99, Tryz.ntmps99
    go_wp2_with (first | (go_at_call 123; refine (hlet _).mono ?_; rintro e w1 ⟨rfl, rfl⟩) | (go_at_call 124; refine (hbeh _).mono ?_; rintro e w1 ⟨rfl, rfl⟩))
    refine bodyPost_ret (v := .tuple #[tokV 1 i E 0, .int .i64 0]) (by rw [results_ct rfl]; go_simp; rfl) rfl ?_
    refine ⟨.inr ⟨_, HT2.out, by show _ = Ending.returned (.tuple #[tokV 1 i ((i + (E - i) : Nat) : Int) 0, .int .i64 0]); rw [show i + (E - i) = E by omega]⟩, ?_⟩
    exact ((Below.refl _ _).alloc (Nat.le_refl _) _).alloc (by simp) _

theorem run_digits {s : ByteArray} {i : Nat} : ∀ b ∈ (s.data.toList.drop i).take (runAt isDgt s i - i), isDgt b = true := by
  unfold runAt
  rw [Nat.add_sub_cancel_left]
  exact run_all isDgt _
theorem bad_head {s : ByteArray} {i n : Nat} (h : i < s.size) (h0 : 0 < n) (hn : n ≤ s.size - i) : badF ((s.data.toList.drop i).take n) = ((s[i] == 48 && decide (1 < n)) || decide (1073741824 < valF ((s.data.toList.drop i).take n))) := by
  unfold badF
  congr 2
  · rw [drop_at s h]
    obtain ⟨m, rfl⟩ : ∃ k, n = k + 1 := ⟨n - 1, by omega⟩
    rw [List.take_succ_cons]
    rfl
  · simp
    omega
theorem cap_gt (l : Bytes) : (1073741824 < capF l) = (1073741824 < valF l) := by
  unfold capF
  apply propext
  omega
theorem cap_le {l : Bytes} (h : ¬ 1073741824 < valF l) : capF l = valF l := by
  unfold capF
  omega
theorem run_pos {p : UInt8 → Bool} {s : ByteArray} {i : Nat} (h : i < s.size) (hp : p s[i] = true) : i < runAt p s i := by
  rw [run_yes h hp]
  have := runAt_le p s (i := i + 1) (by omega)
  omega

set_option maxHeartbeats 4000000 in
theorem tokenN_any (s : ByteArray) (i : Nat) (w : World) (hs : s.size ≤ 1000000) (hi : i < s.size) (hl : isLet s[i] = false) (hd : isDgt s[i] = true) :
    Calls Tryz.prog 99 #[.string s, .int .i64 (i : Int)] w fun e w' => TokSays s i e ∧ Below w.heap.size w w' := by
  have hlet := fun w => letter_any s[i] w
  have hdig := fun w => digit_any s[i] w
  rw [hl] at hlet
  rw [hd] at hdig
  have hbeh := fun w => behind_dg s i w hs (by omega)
  have HT := Lib.hid (tok_num hi hl hd)
  have hpos := run_pos hi hd
  obtain ⟨hE1, hE2⟩ := runAt_le isDgt s (i := i) (by omega)
  have hdg := run_digits (s := s) (i := i)
  generalize runAt isDgt s i = E at *
  have hval := fun w => value_any (s.extract i E) w (by
    rw [ByteArray.data_extract, Array.toList_extract]
    exact hdg)
  have hbad := bad_head hi (n := E - i) (by omega) (by omega)
  have e48 : ((s[i].toNat : Int) == 48) = (s[i] == 48) := byte_eq s[i] 48 (by decide)
  have hL : (s.extract i E).data.toList = (s.data.toList.drop i).take (E - i) := by rw [ByteArray.data_extract, Array.toList_extract]
  rw [hL] at hval
  clear hL hdg
  have HG := Lib.hid (cap_gt ((s.data.toList.drop i).take (E - i)))
  have HC := Lib.hid (@cap_le ((s.data.toList.drop i).take (E - i)))
  have hcl : capF ((s.data.toList.drop i).take (E - i)) ≤ 1073741825 := Nat.min_le_right _ _
  rw [hbad] at HT
  clear hbad
  generalize capF ((s.data.toList.drop i).take (E - i)) = C at *
  generalize valF ((s.data.toList.drop i).take (E - i)) = V at *
  have hie : (i : Int) ≤ E := by omega
  have hes : (E : Int) ≤ s.size := by omega
  clear hl hd
  by_cases h1 : 1 < E - i
  · have x1 : 1 < (E : Int) - i := by omega
    cases hz : s[i] == 48
    · by_cases h2 : 1073741824 < V
      · have HT2 := Lib.hid (HT.out.trans (if_pos (by simp [h2])))
        have x2 : 1073741824 < (C : Int) := by have := HG.out; rw [← this] at h2; omega
        rw [hz] at e48
        clear HT HG HC h2 hz
        go_enter Tryz.func99, Tryz.ntmps99
        go_wp2_with (first | (go_at_call 123; refine (hlet _).mono ?_; rintro e w1 ⟨rfl, rfl⟩) | (go_at_call 152; refine (hdig _).mono ?_; rintro e w1 ⟨rfl, rfl⟩) | (go_at_call 124; refine (hbeh _).mono ?_; rintro e w1 ⟨rfl, rfl⟩) | (go_at_call 153; refine (hval _).mono ?_; rintro e w1 ⟨rfl, hb1⟩; have r0 : w1.cell? ⟨w.heap.size, 0, none⟩ = some (.int .i64 0) := (hb1.cell (p := ⟨w.heap.size, 0, none⟩) (by simp; omega)).trans (by simp [cell_push']); have r1 : w1.cell? ⟨w.heap.size, 1, none⟩ = some (.int .i64 0) := (hb1.cell (p := ⟨w.heap.size, 1, none⟩) (by simp; omega)).trans (by simp [cell_push']); have r2 : w1.cell? ⟨w.heap.size, 2, none⟩ = some (.int .i64 0) := (hb1.cell (p := ⟨w.heap.size, 2, none⟩) (by simp; omega)).trans (by simp [cell_push']); have r3 : w1.cell? ⟨w.heap.size, 3, none⟩ = some (.int .i64 0) := (hb1.cell (p := ⟨w.heap.size, 3, none⟩) (by simp; omega)).trans (by simp [cell_push']); have t0 : w1.cell? ⟨w.heap.size + 1, 0, none⟩ = some (.int .i64 2) := (hb1.cell (p := ⟨w.heap.size + 1, 0, none⟩) (by simp)).trans (by simp [cell_push']); have t1 : w1.cell? ⟨w.heap.size + 1, 1, none⟩ = some (.int .i64 i) := (hb1.cell (p := ⟨w.heap.size + 1, 1, none⟩) (by simp)).trans (by simp [cell_push']); have t2 : w1.cell? ⟨w.heap.size + 1, 2, none⟩ = some (.int .i64 E) := (hb1.cell (p := ⟨w.heap.size + 1, 2, none⟩) (by simp)).trans (by simp [cell_push']); have t3 : w1.cell? ⟨w.heap.size + 1, 3, none⟩ = some (.int .i64 0) := (hb1.cell (p := ⟨w.heap.size + 1, 3, none⟩) (by simp)).trans (by simp [cell_push']); have q0 : w1.frozen? ⟨w.heap.size, 0, none⟩ = false := (hb1.frozen (p := ⟨w.heap.size, 0, none⟩) (by simp; omega)).trans (by simp [free_push']); have q1 : w1.frozen? ⟨w.heap.size, 1, none⟩ = false := (hb1.frozen (p := ⟨w.heap.size, 1, none⟩) (by simp; omega)).trans (by simp [free_push']); have q2 : w1.frozen? ⟨w.heap.size, 2, none⟩ = false := (hb1.frozen (p := ⟨w.heap.size, 2, none⟩) (by simp; omega)).trans (by simp [free_push']); have q3 : w1.frozen? ⟨w.heap.size, 3, none⟩ = false := (hb1.frozen (p := ⟨w.heap.size, 3, none⟩) (by simp; omega)).trans (by simp [free_push']); have q4 : w1.frozen? ⟨w.heap.size + 1, 3, none⟩ = false := (hb1.frozen (p := ⟨w.heap.size + 1, 3, none⟩) (by simp)).trans (by simp [free_push']); have B1 := Lib.hid (((((Below.refl _ _).alloc (Nat.le_refl w.heap.size) (.cells #[.int .i64 0, .int .i64 0, .int .i64 0, .int .i64 0] 51)).alloc (by simp) (.cells #[.int .i64 2, .int .i64 i, .int .i64 E, .int .i64 0] 51)).trans (hb1.mono (by simp; omega)))); clear hb1))
        refine bodyPost_ret (v := .tuple #[tokV 0 0 0 0, .int .i64 2]) (by rw [results_ct rfl]; go_simp; rfl) rfl ?_
        exact ⟨.inl ⟨2, HT2.out, rfl⟩, (((((B1.out.setCell (p := ⟨w.heap.size + 1, 3, none⟩) (by simp) _).setCell (p := ⟨w.heap.size, 0, none⟩) (by simp) _).setCell (p := ⟨w.heap.size, 1, none⟩) (by simp) _).setCell (p := ⟨w.heap.size, 2, none⟩) (by simp) _).setCell (p := ⟨w.heap.size, 3, none⟩) (by simp) _)⟩
      · have HC2 := Lib.hid (HC.out h2)
        have HT2 := Lib.hid (HT.out.trans (if_neg (by simp [h2, hz])))
        have x2 : ¬ 1073741824 < (C : Int) := by rw [HC2.out]; omega
        rw [hz] at e48
        clear HT HG HC h2 hz
        go_enter Tryz.func99, Tryz.ntmps99
        go_wp2_with (first | (go_at_call 123; refine (hlet _).mono ?_; rintro e w1 ⟨rfl, rfl⟩) | (go_at_call 152; refine (hdig _).mono ?_; rintro e w1 ⟨rfl, rfl⟩) | (go_at_call 124; refine (hbeh _).mono ?_; rintro e w1 ⟨rfl, rfl⟩) | (go_at_call 153; refine (hval _).mono ?_; rintro e w1 ⟨rfl, hb1⟩; have r0 : w1.cell? ⟨w.heap.size, 0, none⟩ = some (.int .i64 0) := (hb1.cell (p := ⟨w.heap.size, 0, none⟩) (by simp; omega)).trans (by simp [cell_push']); have r1 : w1.cell? ⟨w.heap.size, 1, none⟩ = some (.int .i64 0) := (hb1.cell (p := ⟨w.heap.size, 1, none⟩) (by simp; omega)).trans (by simp [cell_push']); have r2 : w1.cell? ⟨w.heap.size, 2, none⟩ = some (.int .i64 0) := (hb1.cell (p := ⟨w.heap.size, 2, none⟩) (by simp; omega)).trans (by simp [cell_push']); have r3 : w1.cell? ⟨w.heap.size, 3, none⟩ = some (.int .i64 0) := (hb1.cell (p := ⟨w.heap.size, 3, none⟩) (by simp; omega)).trans (by simp [cell_push']); have t0 : w1.cell? ⟨w.heap.size + 1, 0, none⟩ = some (.int .i64 2) := (hb1.cell (p := ⟨w.heap.size + 1, 0, none⟩) (by simp)).trans (by simp [cell_push']); have t1 : w1.cell? ⟨w.heap.size + 1, 1, none⟩ = some (.int .i64 i) := (hb1.cell (p := ⟨w.heap.size + 1, 1, none⟩) (by simp)).trans (by simp [cell_push']); have t2 : w1.cell? ⟨w.heap.size + 1, 2, none⟩ = some (.int .i64 E) := (hb1.cell (p := ⟨w.heap.size + 1, 2, none⟩) (by simp)).trans (by simp [cell_push']); have t3 : w1.cell? ⟨w.heap.size + 1, 3, none⟩ = some (.int .i64 0) := (hb1.cell (p := ⟨w.heap.size + 1, 3, none⟩) (by simp)).trans (by simp [cell_push']); have q0 : w1.frozen? ⟨w.heap.size, 0, none⟩ = false := (hb1.frozen (p := ⟨w.heap.size, 0, none⟩) (by simp; omega)).trans (by simp [free_push']); have q1 : w1.frozen? ⟨w.heap.size, 1, none⟩ = false := (hb1.frozen (p := ⟨w.heap.size, 1, none⟩) (by simp; omega)).trans (by simp [free_push']); have q2 : w1.frozen? ⟨w.heap.size, 2, none⟩ = false := (hb1.frozen (p := ⟨w.heap.size, 2, none⟩) (by simp; omega)).trans (by simp [free_push']); have q3 : w1.frozen? ⟨w.heap.size, 3, none⟩ = false := (hb1.frozen (p := ⟨w.heap.size, 3, none⟩) (by simp; omega)).trans (by simp [free_push']); have q4 : w1.frozen? ⟨w.heap.size + 1, 3, none⟩ = false := (hb1.frozen (p := ⟨w.heap.size + 1, 3, none⟩) (by simp)).trans (by simp [free_push']); have B1 := Lib.hid (((((Below.refl _ _).alloc (Nat.le_refl w.heap.size) (.cells #[.int .i64 0, .int .i64 0, .int .i64 0, .int .i64 0] 51)).alloc (by simp) (.cells #[.int .i64 2, .int .i64 i, .int .i64 E, .int .i64 0] 51)).trans (hb1.mono (by simp; omega)))); clear hb1))
        refine bodyPost_ret (v := .tuple #[tokV 2 i E C, .int .i64 0]) (by rw [results_ct rfl]; go_simp; rfl) rfl ?_
        exact ⟨.inr ⟨_, HT2.out, by show _ = Ending.returned (.tuple #[tokV 2 i ((i + (E - i) : Nat) : Int) (V : Nat), .int .i64 0]); rw [show i + (E - i) = E by omega, HC2.out]⟩, (((((B1.out.setCell (p := ⟨w.heap.size + 1, 3, none⟩) (by simp) _).setCell (p := ⟨w.heap.size, 0, none⟩) (by simp) _).setCell (p := ⟨w.heap.size, 1, none⟩) (by simp) _).setCell (p := ⟨w.heap.size, 2, none⟩) (by simp) _).setCell (p := ⟨w.heap.size, 3, none⟩) (by simp) _)⟩
    · have HT2 := Lib.hid (HT.out.trans (if_pos (by simp [h1, hz])))
      rw [hz] at e48
      clear HT HG HC hz
      go_enter Tryz.func99, Tryz.ntmps99
      go_wp2_with (first | (go_at_call 123; refine (hlet _).mono ?_; rintro e w1 ⟨rfl, rfl⟩) | (go_at_call 152; refine (hdig _).mono ?_; rintro e w1 ⟨rfl, rfl⟩) | (go_at_call 124; refine (hbeh _).mono ?_; rintro e w1 ⟨rfl, rfl⟩) | (go_at_call 153; refine (hval _).mono ?_; rintro e w1 ⟨rfl, hb1⟩; have r0 : w1.cell? ⟨w.heap.size, 0, none⟩ = some (.int .i64 0) := (hb1.cell (p := ⟨w.heap.size, 0, none⟩) (by simp; omega)).trans (by simp [cell_push']); have r1 : w1.cell? ⟨w.heap.size, 1, none⟩ = some (.int .i64 0) := (hb1.cell (p := ⟨w.heap.size, 1, none⟩) (by simp; omega)).trans (by simp [cell_push']); have r2 : w1.cell? ⟨w.heap.size, 2, none⟩ = some (.int .i64 0) := (hb1.cell (p := ⟨w.heap.size, 2, none⟩) (by simp; omega)).trans (by simp [cell_push']); have r3 : w1.cell? ⟨w.heap.size, 3, none⟩ = some (.int .i64 0) := (hb1.cell (p := ⟨w.heap.size, 3, none⟩) (by simp; omega)).trans (by simp [cell_push']); have t0 : w1.cell? ⟨w.heap.size + 1, 0, none⟩ = some (.int .i64 2) := (hb1.cell (p := ⟨w.heap.size + 1, 0, none⟩) (by simp)).trans (by simp [cell_push']); have t1 : w1.cell? ⟨w.heap.size + 1, 1, none⟩ = some (.int .i64 i) := (hb1.cell (p := ⟨w.heap.size + 1, 1, none⟩) (by simp)).trans (by simp [cell_push']); have t2 : w1.cell? ⟨w.heap.size + 1, 2, none⟩ = some (.int .i64 E) := (hb1.cell (p := ⟨w.heap.size + 1, 2, none⟩) (by simp)).trans (by simp [cell_push']); have t3 : w1.cell? ⟨w.heap.size + 1, 3, none⟩ = some (.int .i64 0) := (hb1.cell (p := ⟨w.heap.size + 1, 3, none⟩) (by simp)).trans (by simp [cell_push']); have q0 : w1.frozen? ⟨w.heap.size, 0, none⟩ = false := (hb1.frozen (p := ⟨w.heap.size, 0, none⟩) (by simp; omega)).trans (by simp [free_push']); have q1 : w1.frozen? ⟨w.heap.size, 1, none⟩ = false := (hb1.frozen (p := ⟨w.heap.size, 1, none⟩) (by simp; omega)).trans (by simp [free_push']); have q2 : w1.frozen? ⟨w.heap.size, 2, none⟩ = false := (hb1.frozen (p := ⟨w.heap.size, 2, none⟩) (by simp; omega)).trans (by simp [free_push']); have q3 : w1.frozen? ⟨w.heap.size, 3, none⟩ = false := (hb1.frozen (p := ⟨w.heap.size, 3, none⟩) (by simp; omega)).trans (by simp [free_push']); have q4 : w1.frozen? ⟨w.heap.size + 1, 3, none⟩ = false := (hb1.frozen (p := ⟨w.heap.size + 1, 3, none⟩) (by simp)).trans (by simp [free_push']); have B1 := Lib.hid (((((Below.refl _ _).alloc (Nat.le_refl w.heap.size) (.cells #[.int .i64 0, .int .i64 0, .int .i64 0, .int .i64 0] 51)).alloc (by simp) (.cells #[.int .i64 2, .int .i64 i, .int .i64 E, .int .i64 0] 51)).trans (hb1.mono (by simp; omega)))); clear hb1))
      refine bodyPost_ret (v := .tuple #[tokV 0 0 0 0, .int .i64 2]) (by rw [results_ct rfl]; go_simp; rfl) rfl ?_
      exact ⟨.inl ⟨2, HT2.out, rfl⟩, (((((B1.out.setCell (p := ⟨w.heap.size + 1, 3, none⟩) (by simp) _).setCell (p := ⟨w.heap.size, 0, none⟩) (by simp) _).setCell (p := ⟨w.heap.size, 1, none⟩) (by simp) _).setCell (p := ⟨w.heap.size, 2, none⟩) (by simp) _).setCell (p := ⟨w.heap.size, 3, none⟩) (by simp) _)⟩
  · have x1 : ¬ 1 < (E : Int) - i := by omega
    by_cases h2 : 1073741824 < V
    · have HT2 := Lib.hid (HT.out.trans (if_pos (by simp [h2])))
      have x2 : 1073741824 < (C : Int) := by have := HG.out; rw [← this] at h2; omega
      clear HT HG HC h2
      cases hz : s[i] == 48
      all_goals
        rw [hz] at e48
        clear hz
        go_enter Tryz.func99, Tryz.ntmps99
        go_wp2_with (first | (go_at_call 123; refine (hlet _).mono ?_; rintro e w1 ⟨rfl, rfl⟩) | (go_at_call 152; refine (hdig _).mono ?_; rintro e w1 ⟨rfl, rfl⟩) | (go_at_call 124; refine (hbeh _).mono ?_; rintro e w1 ⟨rfl, rfl⟩) | (go_at_call 153; refine (hval _).mono ?_; rintro e w1 ⟨rfl, hb1⟩; have r0 : w1.cell? ⟨w.heap.size, 0, none⟩ = some (.int .i64 0) := (hb1.cell (p := ⟨w.heap.size, 0, none⟩) (by simp; omega)).trans (by simp [cell_push']); have r1 : w1.cell? ⟨w.heap.size, 1, none⟩ = some (.int .i64 0) := (hb1.cell (p := ⟨w.heap.size, 1, none⟩) (by simp; omega)).trans (by simp [cell_push']); have r2 : w1.cell? ⟨w.heap.size, 2, none⟩ = some (.int .i64 0) := (hb1.cell (p := ⟨w.heap.size, 2, none⟩) (by simp; omega)).trans (by simp [cell_push']); have r3 : w1.cell? ⟨w.heap.size, 3, none⟩ = some (.int .i64 0) := (hb1.cell (p := ⟨w.heap.size, 3, none⟩) (by simp; omega)).trans (by simp [cell_push']); have t0 : w1.cell? ⟨w.heap.size + 1, 0, none⟩ = some (.int .i64 2) := (hb1.cell (p := ⟨w.heap.size + 1, 0, none⟩) (by simp)).trans (by simp [cell_push']); have t1 : w1.cell? ⟨w.heap.size + 1, 1, none⟩ = some (.int .i64 i) := (hb1.cell (p := ⟨w.heap.size + 1, 1, none⟩) (by simp)).trans (by simp [cell_push']); have t2 : w1.cell? ⟨w.heap.size + 1, 2, none⟩ = some (.int .i64 E) := (hb1.cell (p := ⟨w.heap.size + 1, 2, none⟩) (by simp)).trans (by simp [cell_push']); have t3 : w1.cell? ⟨w.heap.size + 1, 3, none⟩ = some (.int .i64 0) := (hb1.cell (p := ⟨w.heap.size + 1, 3, none⟩) (by simp)).trans (by simp [cell_push']); have q0 : w1.frozen? ⟨w.heap.size, 0, none⟩ = false := (hb1.frozen (p := ⟨w.heap.size, 0, none⟩) (by simp; omega)).trans (by simp [free_push']); have q1 : w1.frozen? ⟨w.heap.size, 1, none⟩ = false := (hb1.frozen (p := ⟨w.heap.size, 1, none⟩) (by simp; omega)).trans (by simp [free_push']); have q2 : w1.frozen? ⟨w.heap.size, 2, none⟩ = false := (hb1.frozen (p := ⟨w.heap.size, 2, none⟩) (by simp; omega)).trans (by simp [free_push']); have q3 : w1.frozen? ⟨w.heap.size, 3, none⟩ = false := (hb1.frozen (p := ⟨w.heap.size, 3, none⟩) (by simp; omega)).trans (by simp [free_push']); have q4 : w1.frozen? ⟨w.heap.size + 1, 3, none⟩ = false := (hb1.frozen (p := ⟨w.heap.size + 1, 3, none⟩) (by simp)).trans (by simp [free_push']); have B1 := Lib.hid (((((Below.refl _ _).alloc (Nat.le_refl w.heap.size) (.cells #[.int .i64 0, .int .i64 0, .int .i64 0, .int .i64 0] 51)).alloc (by simp) (.cells #[.int .i64 2, .int .i64 i, .int .i64 E, .int .i64 0] 51)).trans (hb1.mono (by simp; omega)))); clear hb1))
        refine bodyPost_ret (v := .tuple #[tokV 0 0 0 0, .int .i64 2]) (by rw [results_ct rfl]; go_simp; rfl) rfl ?_
        exact ⟨.inl ⟨2, HT2.out, rfl⟩, (((((B1.out.setCell (p := ⟨w.heap.size + 1, 3, none⟩) (by simp) _).setCell (p := ⟨w.heap.size, 0, none⟩) (by simp) _).setCell (p := ⟨w.heap.size, 1, none⟩) (by simp) _).setCell (p := ⟨w.heap.size, 2, none⟩) (by simp) _).setCell (p := ⟨w.heap.size, 3, none⟩) (by simp) _)⟩
    · have HC2 := Lib.hid (HC.out h2)
      have HT2 := Lib.hid (HT.out.trans (if_neg (by simp [h2, h1])))
      have x2 : ¬ 1073741824 < (C : Int) := by rw [HC2.out]; omega
      clear HT HG HC h2
      cases hz : s[i] == 48
      all_goals
        rw [hz] at e48
        clear hz
        go_enter Tryz.func99, Tryz.ntmps99
        go_wp2_with (first | (go_at_call 123; refine (hlet _).mono ?_; rintro e w1 ⟨rfl, rfl⟩) | (go_at_call 152; refine (hdig _).mono ?_; rintro e w1 ⟨rfl, rfl⟩) | (go_at_call 124; refine (hbeh _).mono ?_; rintro e w1 ⟨rfl, rfl⟩) | (go_at_call 153; refine (hval _).mono ?_; rintro e w1 ⟨rfl, hb1⟩; have r0 : w1.cell? ⟨w.heap.size, 0, none⟩ = some (.int .i64 0) := (hb1.cell (p := ⟨w.heap.size, 0, none⟩) (by simp; omega)).trans (by simp [cell_push']); have r1 : w1.cell? ⟨w.heap.size, 1, none⟩ = some (.int .i64 0) := (hb1.cell (p := ⟨w.heap.size, 1, none⟩) (by simp; omega)).trans (by simp [cell_push']); have r2 : w1.cell? ⟨w.heap.size, 2, none⟩ = some (.int .i64 0) := (hb1.cell (p := ⟨w.heap.size, 2, none⟩) (by simp; omega)).trans (by simp [cell_push']); have r3 : w1.cell? ⟨w.heap.size, 3, none⟩ = some (.int .i64 0) := (hb1.cell (p := ⟨w.heap.size, 3, none⟩) (by simp; omega)).trans (by simp [cell_push']); have t0 : w1.cell? ⟨w.heap.size + 1, 0, none⟩ = some (.int .i64 2) := (hb1.cell (p := ⟨w.heap.size + 1, 0, none⟩) (by simp)).trans (by simp [cell_push']); have t1 : w1.cell? ⟨w.heap.size + 1, 1, none⟩ = some (.int .i64 i) := (hb1.cell (p := ⟨w.heap.size + 1, 1, none⟩) (by simp)).trans (by simp [cell_push']); have t2 : w1.cell? ⟨w.heap.size + 1, 2, none⟩ = some (.int .i64 E) := (hb1.cell (p := ⟨w.heap.size + 1, 2, none⟩) (by simp)).trans (by simp [cell_push']); have t3 : w1.cell? ⟨w.heap.size + 1, 3, none⟩ = some (.int .i64 0) := (hb1.cell (p := ⟨w.heap.size + 1, 3, none⟩) (by simp)).trans (by simp [cell_push']); have q0 : w1.frozen? ⟨w.heap.size, 0, none⟩ = false := (hb1.frozen (p := ⟨w.heap.size, 0, none⟩) (by simp; omega)).trans (by simp [free_push']); have q1 : w1.frozen? ⟨w.heap.size, 1, none⟩ = false := (hb1.frozen (p := ⟨w.heap.size, 1, none⟩) (by simp; omega)).trans (by simp [free_push']); have q2 : w1.frozen? ⟨w.heap.size, 2, none⟩ = false := (hb1.frozen (p := ⟨w.heap.size, 2, none⟩) (by simp; omega)).trans (by simp [free_push']); have q3 : w1.frozen? ⟨w.heap.size, 3, none⟩ = false := (hb1.frozen (p := ⟨w.heap.size, 3, none⟩) (by simp; omega)).trans (by simp [free_push']); have q4 : w1.frozen? ⟨w.heap.size + 1, 3, none⟩ = false := (hb1.frozen (p := ⟨w.heap.size + 1, 3, none⟩) (by simp)).trans (by simp [free_push']); have B1 := Lib.hid (((((Below.refl _ _).alloc (Nat.le_refl w.heap.size) (.cells #[.int .i64 0, .int .i64 0, .int .i64 0, .int .i64 0] 51)).alloc (by simp) (.cells #[.int .i64 2, .int .i64 i, .int .i64 E, .int .i64 0] 51)).trans (hb1.mono (by simp; omega)))); clear hb1))
        refine bodyPost_ret (v := .tuple #[tokV 2 i E C, .int .i64 0]) (by rw [results_ct rfl]; go_simp; rfl) rfl ?_
        exact ⟨.inr ⟨_, HT2.out, by show _ = Ending.returned (.tuple #[tokV 2 i ((i + (E - i) : Nat) : Int) (V : Nat), .int .i64 0]); rw [show i + (E - i) = E by omega, HC2.out]⟩, (((((B1.out.setCell (p := ⟨w.heap.size + 1, 3, none⟩) (by simp) _).setCell (p := ⟨w.heap.size, 0, none⟩) (by simp) _).setCell (p := ⟨w.heap.size, 1, none⟩) (by simp) _).setCell (p := ⟨w.heap.size, 2, none⟩) (by simp) _).setCell (p := ⟨w.heap.size, 3, none⟩) (by simp) _)⟩

set_option maxHeartbeats 2000000 in
theorem tokenS_any (s : ByteArray) (i : Nat) (w : World) (hs : s.size ≤ 1000000) (hi : i < s.size) (hl : isLet s[i] = false) (hd : isDgt s[i] = false) :
    Calls Tryz.prog 99 #[.string s, .int .i64 (i : Int)] w fun e w' => TokSays s i e ∧ Below w.heap.size w w' := by
  have hlet := fun w => letter_any s[i] w
  have hdig := fun w => digit_any s[i] w
  rw [hl] at hlet
  rw [hd] at hdig
  have hsig := fun w => behindSign_any s i w hs hi
  have HT := Lib.hid (tok_sign hi hl hd)
  generalize signF (s.data.toList.drop i) = R at *
  clear hl hd
  by_cases h0 : R = 0
  · have HT2 := Lib.hid (HT.out.trans (if_pos h0))
    have x0 : ((i : Int) + R == i) = true := by simp; omega
    clear HT
    go_enter Tryz.func99, Tryz.ntmps99
    go_wp2_with (first | (go_at_call 123; refine (hlet _).mono ?_; rintro e w1 ⟨rfl, rfl⟩) | (go_at_call 152; refine (hdig _).mono ?_; rintro e w1 ⟨rfl, rfl⟩) | (go_at_call 154; refine (hsig _).mono ?_; rintro e w1 ⟨rfl, rfl⟩))
    refine bodyPost_ret (v := .tuple #[tokV 0 0 0 0, .int .i64 4]) (by rw [results_ct rfl]; go_simp; rfl) rfl ?_
    exact ⟨.inl ⟨4, HT2.out, rfl⟩, ((Below.refl _ _).alloc (Nat.le_refl _) _).alloc (by simp) _⟩
  · have HT2 := Lib.hid (HT.out.trans (if_neg h0))
    have x0 : ((i : Int) + R == i) = false := by simp; omega
    clear HT
    go_enter Tryz.func99, Tryz.ntmps99
    go_wp2_with (first | (go_at_call 123; refine (hlet _).mono ?_; rintro e w1 ⟨rfl, rfl⟩) | (go_at_call 152; refine (hdig _).mono ?_; rintro e w1 ⟨rfl, rfl⟩) | (go_at_call 154; refine (hsig _).mono ?_; rintro e w1 ⟨rfl, rfl⟩))
    refine bodyPost_ret (v := .tuple #[tokV 3 i ((i : Int) + R) 0, .int .i64 0]) (by rw [results_ct rfl]; go_simp; rfl) rfl ?_
    exact ⟨.inr ⟨_, HT2.out, by show _ = Ending.returned (.tuple #[tokV 3 i ((i + R : Nat) : Int) 0, .int .i64 0]); rw [Int.natCast_add]⟩, ((Below.refl _ _).alloc (Nat.le_refl _) _).alloc (by simp) _⟩
theorem token_any (s : ByteArray) (i : Nat) (w : World) (hs : s.size ≤ 1000000) (hi : i < s.size) :
    Calls Tryz.prog 99 #[.string s, .int .i64 (i : Int)] w fun e w' => TokSays s i e ∧ Below w.heap.size w w' := by
  cases hl : isLet s[i] with
  | true => exact tokenW_any s i w hs hi hl
  | false => cases hd : isDgt s[i] with
    | true => exact tokenN_any s i w hs hi hl hd
    | false => exact tokenS_any s i w hs hi hl hd
end Go.Proofs.YtdbahiepihkagaaGreatDoor
namespace Go.Proofs.YtdbahiepihkagaaGreatDoor
set_option maxRecDepth 100000
open Go.RowKit

set_option maxHeartbeats 4000000 in
theorem signR_1 (s : ByteArray) (i : Nat) (w : World) (hs : s.size ≤ 1000000) (hi : i < s.size) (h2 : i + 1 = s.size) :
    Calls Tryz.prog 116 #[.string s, .int .i64 (i : Int)] w fun e w' => e = .returned (.int .i64 ((signF (s.data.toList.drop i) : Nat) : Int)) ∧ w' = w := by
  have HN : Hid (signF (s.data.toList.drop i) = if isOne s[i] then 1 else 0) := Lib.hid (by
    rw [drop_at s hi, drop_end s (by omega)]; exact sign_else two_one)
  have g1 : ((s[i].toNat : Int) == 59) = (s[i] == 59) := byte_eq s[i] 59 (by decide)
  have g2 : ((s[i].toNat : Int) == 58) = (s[i] == 58) := byte_eq s[i] 58 (by decide)
  have g3 : ((s[i].toNat : Int) == 44) = (s[i] == 44) := byte_eq s[i] 44 (by decide)
  have g4 : ((s[i].toNat : Int) == 40) = (s[i] == 40) := byte_eq s[i] 40 (by decide)
  have g5 : ((s[i].toNat : Int) == 41) = (s[i] == 41) := byte_eq s[i] 41 (by decide)
  have g6 : ((s[i].toNat : Int) == 46) = (s[i] == 46) := byte_eq s[i] 46 (by decide)
  have g7 : ((s[i].toNat : Int) == 63) = (s[i] == 63) := byte_eq s[i] 63 (by decide)
  have g8 : ((s[i].toNat : Int) == 60) = (s[i] == 60) := byte_eq s[i] 60 (by decide)
  have g9 : ((s[i].toNat : Int) == 62) = (s[i] == 62) := byte_eq s[i] 62 (by decide)
  have g10 : ((s[i].toNat : Int) == 43) = (s[i] == 43) := byte_eq s[i] 43 (by decide)
  have g11 : ((s[i].toNat : Int) == 45) = (s[i] == 45) := byte_eq s[i] 45 (by decide)
  have g12 : ((s[i].toNat : Int) == 42) = (s[i] == 42) := byte_eq s[i] 42 (by decide)
  have g13 : ((s[i].toNat : Int) == 47) = (s[i] == 47) := byte_eq s[i] 47 (by decide)
  have g14 : ((s[i].toNat : Int) == 37) = (s[i] == 37) := byte_eq s[i] 37 (by decide)
  have g15 : ((s[i].toNat : Int) == 33) = (s[i] == 33) := byte_eq s[i] 33 (by decide)
  generalize signF (s.data.toList.drop i) = R at *
  unfold isOne at HN
  generalize (s[i] == 59) = d1 at *
  generalize (s[i] == 58) = d2 at *
  generalize (s[i] == 44) = d3 at *
  generalize (s[i] == 40) = d4 at *
  generalize (s[i] == 41) = d5 at *
  generalize (s[i] == 46) = d6 at *
  generalize (s[i] == 63) = d7 at *
  generalize (s[i] == 60) = d8 at *
  generalize (s[i] == 62) = d9 at *
  generalize (s[i] == 43) = d10 at *
  generalize (s[i] == 45) = d11 at *
  generalize (s[i] == 42) = d12 at *
  generalize (s[i] == 47) = d13 at *
  generalize (s[i] == 37) = d14 at *
  generalize (s[i] == 33) = d15 at *
  cases d1
  · cases d2
    · cases d3
      · cases d4
        · cases d5
          · cases d6
            · cases d7
              · cases d8
                · cases d9
                  · cases d10
                    · cases d11
                      · cases d12
                        · cases d13
                          · cases d14
                            · cases d15
                              · have HE := Lib.hid (HN.out)
                                clear HN
                                go_enter Tryz.func116, Tryz.ntmps116
                                go_wp2
                                go_ret
                                exact ⟨ret_int (by rw [HE.out]; rfl), rfl⟩
                              · have HE := Lib.hid (HN.out)
                                clear HN
                                go_enter Tryz.func116, Tryz.ntmps116
                                go_wp2
                                go_ret
                                exact ⟨ret_int (by rw [HE.out]; rfl), rfl⟩
                            · have HE := Lib.hid (HN.out)
                              clear HN
                              go_enter Tryz.func116, Tryz.ntmps116
                              go_wp2
                              go_ret
                              exact ⟨ret_int (by rw [HE.out]; rfl), rfl⟩
                          · have HE := Lib.hid (HN.out)
                            clear HN
                            go_enter Tryz.func116, Tryz.ntmps116
                            go_wp2
                            go_ret
                            exact ⟨ret_int (by rw [HE.out]; rfl), rfl⟩
                        · have HE := Lib.hid (HN.out)
                          clear HN
                          go_enter Tryz.func116, Tryz.ntmps116
                          go_wp2
                          go_ret
                          exact ⟨ret_int (by rw [HE.out]; rfl), rfl⟩
                      · have HE := Lib.hid (HN.out)
                        clear HN
                        go_enter Tryz.func116, Tryz.ntmps116
                        go_wp2
                        go_ret
                        exact ⟨ret_int (by rw [HE.out]; rfl), rfl⟩
                    · have HE := Lib.hid (HN.out)
                      clear HN
                      go_enter Tryz.func116, Tryz.ntmps116
                      go_wp2
                      go_ret
                      exact ⟨ret_int (by rw [HE.out]; rfl), rfl⟩
                  · have HE := Lib.hid (HN.out)
                    clear HN
                    go_enter Tryz.func116, Tryz.ntmps116
                    go_wp2
                    go_ret
                    exact ⟨ret_int (by rw [HE.out]; rfl), rfl⟩
                · have HE := Lib.hid (HN.out)
                  clear HN
                  go_enter Tryz.func116, Tryz.ntmps116
                  go_wp2
                  go_ret
                  exact ⟨ret_int (by rw [HE.out]; rfl), rfl⟩
              · have HE := Lib.hid (HN.out)
                clear HN
                go_enter Tryz.func116, Tryz.ntmps116
                go_wp2
                go_ret
                exact ⟨ret_int (by rw [HE.out]; rfl), rfl⟩
            · have HE := Lib.hid (HN.out)
              clear HN
              go_enter Tryz.func116, Tryz.ntmps116
              go_wp2
              go_ret
              exact ⟨ret_int (by rw [HE.out]; rfl), rfl⟩
          · have HE := Lib.hid (HN.out)
            clear HN
            go_enter Tryz.func116, Tryz.ntmps116
            go_wp2
            go_ret
            exact ⟨ret_int (by rw [HE.out]; rfl), rfl⟩
        · have HE := Lib.hid (HN.out)
          clear HN
          go_enter Tryz.func116, Tryz.ntmps116
          go_wp2
          go_ret
          exact ⟨ret_int (by rw [HE.out]; rfl), rfl⟩
      · have HE := Lib.hid (HN.out)
        clear HN
        go_enter Tryz.func116, Tryz.ntmps116
        go_wp2
        go_ret
        exact ⟨ret_int (by rw [HE.out]; rfl), rfl⟩
    · have HE := Lib.hid (HN.out)
      clear HN
      go_enter Tryz.func116, Tryz.ntmps116
      go_wp2
      go_ret
      exact ⟨ret_int (by rw [HE.out]; rfl), rfl⟩
  · have HE := Lib.hid (HN.out)
    clear HN
    go_enter Tryz.func116, Tryz.ntmps116
    go_wp2
    go_ret
    exact ⟨ret_int (by rw [HE.out]; rfl), rfl⟩
set_option maxHeartbeats 4000000 in
theorem signR_2 (s : ByteArray) (i : Nat) (w : World) (hs : s.size ≤ 1000000) (hi : i < s.size) (h2 : i + 2 ≤ s.size) :
    Calls Tryz.prog 116 #[.string s, .int .i64 (i : Int)] w fun e w' => e = .returned (.int .i64 ((signF (s.data.toList.drop i) : Nat) : Int)) ∧ w' = w := by
  have hT : (s.extract i (i + 2)).toList = (s.data.toList.drop i).take 2 := by rw [extract_list]; congr 1; omega
  have HF : Hid (twos.contains ((s.data.toList.drop i).take 2) = true → signF (s.data.toList.drop i) = 2) := Lib.hid sign_two
  have HN : Hid (twos.contains ((s.data.toList.drop i).take 2) = false → signF (s.data.toList.drop i) = if isOne s[i] then 1 else 0) := Lib.hid (by
    rw [drop_at s hi]; exact sign_else)
  have g1 : ((s[i].toNat : Int) == 59) = (s[i] == 59) := byte_eq s[i] 59 (by decide)
  have g2 : ((s[i].toNat : Int) == 58) = (s[i] == 58) := byte_eq s[i] 58 (by decide)
  have g3 : ((s[i].toNat : Int) == 44) = (s[i] == 44) := byte_eq s[i] 44 (by decide)
  have g4 : ((s[i].toNat : Int) == 40) = (s[i] == 40) := byte_eq s[i] 40 (by decide)
  have g5 : ((s[i].toNat : Int) == 41) = (s[i] == 41) := byte_eq s[i] 41 (by decide)
  have g6 : ((s[i].toNat : Int) == 46) = (s[i] == 46) := byte_eq s[i] 46 (by decide)
  have g7 : ((s[i].toNat : Int) == 63) = (s[i] == 63) := byte_eq s[i] 63 (by decide)
  have g8 : ((s[i].toNat : Int) == 60) = (s[i] == 60) := byte_eq s[i] 60 (by decide)
  have g9 : ((s[i].toNat : Int) == 62) = (s[i] == 62) := byte_eq s[i] 62 (by decide)
  have g10 : ((s[i].toNat : Int) == 43) = (s[i] == 43) := byte_eq s[i] 43 (by decide)
  have g11 : ((s[i].toNat : Int) == 45) = (s[i] == 45) := byte_eq s[i] 45 (by decide)
  have g12 : ((s[i].toNat : Int) == 42) = (s[i] == 42) := byte_eq s[i] 42 (by decide)
  have g13 : ((s[i].toNat : Int) == 47) = (s[i] == 47) := byte_eq s[i] 47 (by decide)
  have g14 : ((s[i].toNat : Int) == 37) = (s[i] == 37) := byte_eq s[i] 37 (by decide)
  have g15 : ((s[i].toNat : Int) == 33) = (s[i] == 33) := byte_eq s[i] 33 (by decide)
  generalize (s.data.toList.drop i).take 2 = T at hT HF HN
  rw [twos_or] at HF HN
  generalize signF (s.data.toList.drop i) = R at *
  unfold isOne at HN
  generalize (s[i] == 59) = d1 at *
  generalize (s[i] == 58) = d2 at *
  generalize (s[i] == 44) = d3 at *
  generalize (s[i] == 40) = d4 at *
  generalize (s[i] == 41) = d5 at *
  generalize (s[i] == 46) = d6 at *
  generalize (s[i] == 63) = d7 at *
  generalize (s[i] == 60) = d8 at *
  generalize (s[i] == 62) = d9 at *
  generalize (s[i] == 43) = d10 at *
  generalize (s[i] == 45) = d11 at *
  generalize (s[i] == 42) = d12 at *
  generalize (s[i] == 47) = d13 at *
  generalize (s[i] == 37) = d14 at *
  generalize (s[i] == 33) = d15 at *
  generalize hc1 : (T == [46, 46]) = c1 at HF HN
  generalize hc2 : (T == [45, 62]) = c2 at HF HN
  generalize hc3 : (T == [58, 61]) = c3 at HF HN
  generalize hc4 : (T == [38, 38]) = c4 at HF HN
  generalize hc5 : (T == [124, 124]) = c5 at HF HN
  generalize hc6 : (T == [61, 61]) = c6 at HF HN
  generalize hc7 : (T == [33, 61]) = c7 at HF HN
  generalize hc8 : (T == [60, 61]) = c8 at HF HN
  generalize hc9 : (T == [62, 61]) = c9 at HF HN
  have hle : (i : Int) ≤ s.size := by omega
  cases c1
  · cases c2
    · cases c3
      · cases c4
        · cases c5
          · cases c6
            · cases c7
              · cases c8
                · cases c9
                  · have HN := Lib.hid (HN.out rfl)
                    clear HF
                    cases d1
                    · cases d2
                      · cases d3
                        · cases d4
                          · cases d5
                            · cases d6
                              · cases d7
                                · cases d8
                                  · cases d9
                                    · cases d10
                                      · cases d11
                                        · cases d12
                                          · cases d13
                                            · cases d14
                                              · cases d15
                                                · have HE := Lib.hid (HN.out)
                                                  clear HN
                                                  go_enter Tryz.func116, Tryz.ntmps116
                                                  go_wp2
                                                  go_ret
                                                  exact ⟨ret_int (by rw [HE.out]; rfl), rfl⟩
                                                · have HE := Lib.hid (HN.out)
                                                  clear HN
                                                  go_enter Tryz.func116, Tryz.ntmps116
                                                  go_wp2
                                                  go_ret
                                                  exact ⟨ret_int (by rw [HE.out]; rfl), rfl⟩
                                              · have HE := Lib.hid (HN.out)
                                                clear HN
                                                go_enter Tryz.func116, Tryz.ntmps116
                                                go_wp2
                                                go_ret
                                                exact ⟨ret_int (by rw [HE.out]; rfl), rfl⟩
                                            · have HE := Lib.hid (HN.out)
                                              clear HN
                                              go_enter Tryz.func116, Tryz.ntmps116
                                              go_wp2
                                              go_ret
                                              exact ⟨ret_int (by rw [HE.out]; rfl), rfl⟩
                                          · have HE := Lib.hid (HN.out)
                                            clear HN
                                            go_enter Tryz.func116, Tryz.ntmps116
                                            go_wp2
                                            go_ret
                                            exact ⟨ret_int (by rw [HE.out]; rfl), rfl⟩
                                        · have HE := Lib.hid (HN.out)
                                          clear HN
                                          go_enter Tryz.func116, Tryz.ntmps116
                                          go_wp2
                                          go_ret
                                          exact ⟨ret_int (by rw [HE.out]; rfl), rfl⟩
                                      · have HE := Lib.hid (HN.out)
                                        clear HN
                                        go_enter Tryz.func116, Tryz.ntmps116
                                        go_wp2
                                        go_ret
                                        exact ⟨ret_int (by rw [HE.out]; rfl), rfl⟩
                                    · have HE := Lib.hid (HN.out)
                                      clear HN
                                      go_enter Tryz.func116, Tryz.ntmps116
                                      go_wp2
                                      go_ret
                                      exact ⟨ret_int (by rw [HE.out]; rfl), rfl⟩
                                  · have HE := Lib.hid (HN.out)
                                    clear HN
                                    go_enter Tryz.func116, Tryz.ntmps116
                                    go_wp2
                                    go_ret
                                    exact ⟨ret_int (by rw [HE.out]; rfl), rfl⟩
                                · have HE := Lib.hid (HN.out)
                                  clear HN
                                  go_enter Tryz.func116, Tryz.ntmps116
                                  go_wp2
                                  go_ret
                                  exact ⟨ret_int (by rw [HE.out]; rfl), rfl⟩
                              · have HE := Lib.hid (HN.out)
                                clear HN
                                go_enter Tryz.func116, Tryz.ntmps116
                                go_wp2
                                go_ret
                                exact ⟨ret_int (by rw [HE.out]; rfl), rfl⟩
                            · have HE := Lib.hid (HN.out)
                              clear HN
                              go_enter Tryz.func116, Tryz.ntmps116
                              go_wp2
                              go_ret
                              exact ⟨ret_int (by rw [HE.out]; rfl), rfl⟩
                          · have HE := Lib.hid (HN.out)
                            clear HN
                            go_enter Tryz.func116, Tryz.ntmps116
                            go_wp2
                            go_ret
                            exact ⟨ret_int (by rw [HE.out]; rfl), rfl⟩
                        · have HE := Lib.hid (HN.out)
                          clear HN
                          go_enter Tryz.func116, Tryz.ntmps116
                          go_wp2
                          go_ret
                          exact ⟨ret_int (by rw [HE.out]; rfl), rfl⟩
                      · have HE := Lib.hid (HN.out)
                        clear HN
                        go_enter Tryz.func116, Tryz.ntmps116
                        go_wp2
                        go_ret
                        exact ⟨ret_int (by rw [HE.out]; rfl), rfl⟩
                    · have HE := Lib.hid (HN.out)
                      clear HN
                      go_enter Tryz.func116, Tryz.ntmps116
                      go_wp2
                      go_ret
                      exact ⟨ret_int (by rw [HE.out]; rfl), rfl⟩
                  · have HE := Lib.hid (HF.out (by simp))
                    clear HF HN
                    go_enter Tryz.func116, Tryz.ntmps116
                    go_wp2
                    go_ret
                    exact ⟨ret_int (by rw [HE.out]; rfl), rfl⟩
                · have HE := Lib.hid (HF.out (by simp))
                  clear HF HN
                  go_enter Tryz.func116, Tryz.ntmps116
                  go_wp2
                  go_ret
                  exact ⟨ret_int (by rw [HE.out]; rfl), rfl⟩
              · have HE := Lib.hid (HF.out (by simp))
                clear HF HN
                go_enter Tryz.func116, Tryz.ntmps116
                go_wp2
                go_ret
                exact ⟨ret_int (by rw [HE.out]; rfl), rfl⟩
            · have HE := Lib.hid (HF.out (by simp))
              clear HF HN
              go_enter Tryz.func116, Tryz.ntmps116
              go_wp2
              go_ret
              exact ⟨ret_int (by rw [HE.out]; rfl), rfl⟩
          · have HE := Lib.hid (HF.out (by simp))
            clear HF HN
            go_enter Tryz.func116, Tryz.ntmps116
            go_wp2
            go_ret
            exact ⟨ret_int (by rw [HE.out]; rfl), rfl⟩
        · have HE := Lib.hid (HF.out (by simp))
          clear HF HN
          go_enter Tryz.func116, Tryz.ntmps116
          go_wp2
          go_ret
          exact ⟨ret_int (by rw [HE.out]; rfl), rfl⟩
      · have HE := Lib.hid (HF.out (by simp))
        clear HF HN
        go_enter Tryz.func116, Tryz.ntmps116
        go_wp2
        go_ret
        exact ⟨ret_int (by rw [HE.out]; rfl), rfl⟩
    · have HE := Lib.hid (HF.out (by simp))
      clear HF HN
      go_enter Tryz.func116, Tryz.ntmps116
      go_wp2
      go_ret
      exact ⟨ret_int (by rw [HE.out]; rfl), rfl⟩
  · have HE := Lib.hid (HF.out (by simp))
    clear HF HN
    go_enter Tryz.func116, Tryz.ntmps116
    go_wp2
    go_ret
    exact ⟨ret_int (by rw [HE.out]; rfl), rfl⟩
theorem sign_any (s : ByteArray) (i : Nat) (w : World) (hs : s.size ≤ 1000000) (hi : i < s.size) :
    Calls Tryz.prog 116 #[.string s, .int .i64 (i : Int)] w fun e w' => e = .returned (.int .i64 ((signF (s.data.toList.drop i) : Nat) : Int)) ∧ w' = w := by
  by_cases h : i + 2 ≤ s.size
  · exact signR_2 s i w hs hi h
  · exact signR_1 s i w hs hi (by omega)
end Go.Proofs.YtdbahiepihkagaaGreatDoor
namespace Go.Proofs.YtdbahiepihkagaaGreatDoor
set_option maxRecDepth 100000
open Go.RowKit

/-- the world while the specification's token grows: the result's cell, and the token -/
def tokW (w : World) (k i e n : Int) : World := (w.alloc (.cells #[.int .i64 0, .int .i64 0, .int .i64 0, .int .i64 0] 51)).alloc (.cells #[.int .i64 k, .int .i64 i, .int .i64 e, .int .i64 n] 51)
theorem tokW_eq (w : World) (k i e n : Int) : tokW w k i e n = (w.alloc (.cells #[.int .i64 0, .int .i64 0, .int .i64 0, .int .i64 0] 51)).alloc (.cells #[.int .i64 k, .int .i64 i, .int .i64 e, .int .i64 n] 51) := rfl
theorem tokW_cell (w : World) (k i e n : Int) : (tokW w k i e n).cell? ⟨w.heap.size + 1, 2, none⟩ = some (.int .i64 e) := by simp [tokW, cell_push']
theorem tokW_below (w : World) (k i e n : Int) : Below w.heap.size w (tokW w k i e n) := ((Below.refl _ _).alloc (Nat.le_refl _) _).alloc (by simp) _
def endOf (w wr : World) : Nat := (intOf ((wr.cell? ⟨w.heap.size + 1, 2, none⟩).getD undef)).toNat
theorem endOf_tok (w : World) (k i n : Int) (e : Nat) : endOf w (tokW w k i e n) = e := by
  unfold endOf
  rw [tokW_cell]
  simp [intOf]

set_option maxHeartbeats 2000000 in
theorem tokenRW_any (s : ByteArray) (i : Nat) (w : World) (hs : s.size ≤ 1000000) (hi : i < s.size) (hl : isLet s[i] = true) :
    Calls Tryz.prog 56 #[.string s, .int .i64 (i : Int)] w fun e w' => TokSays s i e ∧ Below w.heap.size w w' := by
  have hlet := fun w => letterR_any s[i] w
  rw [hl] at hlet
  have HT := Lib.hid (tok_word hi hl)
  have HE := Lib.hid (run_yes hi (in_let hl))
  clear hl
  go_enter Tryz.func56, Tryz.ntmps56
  go_wp2_with (go_at_call 112; refine (hlet _).mono ?_; rintro e w1 ⟨rfl, rfl⟩)
  go_loopw [] (fun wr => ∃ k : Nat, i < k ∧ k ≤ s.size ∧ runAt isIn s i = runAt isIn s k ∧ wr = tokW w 1 i k 0) (fun wr => s.size - endOf w wr)
  case atStart => exact ⟨i + 1, by omega, by omega, HE.out, rfl⟩
  case round =>
    obtain ⟨k, hik, hk, hR, rfl⟩ := hrel
    have HR := Lib.hid hR
    clear hR HE
    have hm := endOf_tok w 1 i 0 k
    by_cases hlt : k < s.size
    · have hc := fun w => inner_any s[k] w
      cases hp : isIn s[k]
      · have HE := Lib.hid (HR.out.trans (run_no hlt hp))
        rw [hp] at hc
        rw [HE.out] at HT
        clear hp hm
        by_cases h24 : 24 < k - i
        · have HT2 := Lib.hid (HT.out.trans (if_pos h24))
          have h1 : 24 < (k : Int) - i := by omega
          clear HT
          rw [tokW_eq]
          go_wp2_with (go_at_call 113; refine (hc _).mono ?_; rintro e w1 ⟨rfl, rfl⟩)
          refine bodyPost_ret (v := .tuple #[tokV 0 0 0 0, .int .i64 5]) (by rw [results_ct rfl]; go_simp; rfl) rfl ?_
          exact ⟨.inl ⟨5, HT2.out, rfl⟩, ((Below.refl _ _).alloc (Nat.le_refl _) _).alloc (by simp) _⟩
        · have HT2 := Lib.hid (HT.out.trans (if_neg h24))
          have h1 : ¬ 24 < (k : Int) - i := by omega
          clear HT
          rw [tokW_eq]
          go_wp2_with (go_at_call 113; refine (hc _).mono ?_; rintro e w1 ⟨rfl, rfl⟩)
          refine bodyPost_ret (v := .tuple #[tokV 1 i k 0, .int .i64 0]) (by rw [results_ct rfl]; go_simp; rfl) rfl ?_
          exact ⟨.inr ⟨_, HT2.out, by show _ = Ending.returned (.tuple #[tokV 1 i ((i + (k - i) : Nat) : Int) 0, .int .i64 0]); rw [show i + (k - i) = k by omega]⟩, ((Below.refl _ _).alloc (Nat.le_refl _) _).alloc (by simp) _⟩
      · have HE := Lib.hid (HR.out.trans (run_yes hlt hp))
        rw [hp] at hc
        clear hp HT
        have hm2 := endOf_tok w 1 i 0 (k + 1)
        have Hm := Lib.hid hm
        have Hm2 := Lib.hid hm2
        clear hm hm2
        rw [tokW_eq]
        go_wp2_with (go_at_call 113; refine (hc _).mono ?_; rintro e w1 ⟨rfl, rfl⟩)
        go_roundw
        case rel => exact ⟨k + 1, by omega, by omega, HE.out, by unfold tokW; rfl⟩
        case measure =>
          have h1 := Hm.out
          have h2 := Hm2.out
          unfold tokW at h1 h2
          have e : ((k + 1 : Nat) : Int) = (k : Int) + 1 := by omega
          rw [e] at h2
          rw [h1, h2]
          omega
    · have HE := Lib.hid (HR.out.trans (run_end (by omega)))
      rw [HE.out] at HT
      clear hm
      by_cases h24 : 24 < k - i
      · have HT2 := Lib.hid (HT.out.trans (if_pos h24))
        have h1 : 24 < (k : Int) - i := by omega
        clear HT
        rw [tokW_eq]
        go_wp2
        refine bodyPost_ret (v := .tuple #[tokV 0 0 0 0, .int .i64 5]) (by rw [results_ct rfl]; go_simp; rfl) rfl ?_
        exact ⟨.inl ⟨5, HT2.out, rfl⟩, ((Below.refl _ _).alloc (Nat.le_refl _) _).alloc (by simp) _⟩
      · have HT2 := Lib.hid (HT.out.trans (if_neg h24))
        have h1 : ¬ 24 < (k : Int) - i := by omega
        clear HT
        rw [tokW_eq]
        go_wp2
        refine bodyPost_ret (v := .tuple #[tokV 1 i k 0, .int .i64 0]) (by rw [results_ct rfl]; go_simp; rfl) rfl ?_
        exact ⟨.inr ⟨_, HT2.out, by show _ = Ending.returned (.tuple #[tokV 1 i ((i + (k - i) : Nat) : Int) 0, .int .i64 0]); rw [show i + (k - i) = k by omega]⟩, ((Below.refl _ _).alloc (Nat.le_refl _) _).alloc (by simp) _⟩

set_option maxHeartbeats 4000000 in
theorem tokenRN_any (s : ByteArray) (i : Nat) (w : World) (hs : s.size ≤ 1000000) (hi : i < s.size) (hl : isLet s[i] = false) (hd : isDgt s[i] = true) :
    Calls Tryz.prog 56 #[.string s, .int .i64 (i : Int)] w fun e w' => TokSays s i e ∧ Below w.heap.size w w' := by
  have hlet := fun w => letterR_any s[i] w
  have hdig := fun w => digitR_any s[i] w
  rw [hl] at hlet
  rw [hd] at hdig
  have HT := Lib.hid (tok_num hi hl hd)
  have HE := Lib.hid (run_yes hi hd)
  have hdg := run_digits (s := s) (i := i)
  have hnumA : ∀ (k : Nat) (w0 : World), runAt isDgt s i = k → i < k → k ≤ s.size → Calls Tryz.prog 115 #[.string (s.extract i k)] w0 fun e w' => (∃ z : Int, e = .returned (.tuple #[.int .i64 z, .bool (!badF ((s.data.toList.drop i).take (k - i)))]) ∧ (badF ((s.data.toList.drop i).take (k - i)) = false → z = valF ((s.data.toList.drop i).take (k - i)))) ∧ w' = w0 := by
    intro k w0 hk h1 h2
    rw [hk] at hdg
    have hL : (s.extract i k).data.toList = (s.data.toList.drop i).take (k - i) := by rw [ByteArray.data_extract, Array.toList_extract]
    have h := number_any (s.extract i k) w0 (by rw [ByteArray.size_extract]; omega) (by rw [hL]; exact hdg) (by rw [ByteArray.size_extract]; omega)
    rw [hL] at h
    exact h
  have HN := Lib.hid hnumA
  clear hl hd hdg hnumA
  go_enter Tryz.func56, Tryz.ntmps56
  go_wp2_with (first | (go_at_call 112; refine (hlet _).mono ?_; rintro e w1 ⟨rfl, rfl⟩) | (go_at_call 114; refine (hdig _).mono ?_; rintro e w1 ⟨rfl, rfl⟩))
  go_loopw [] (fun wr => ∃ k : Nat, i < k ∧ k ≤ s.size ∧ runAt isDgt s i = runAt isDgt s k ∧ wr = tokW w 2 i k 0) (fun wr => s.size - endOf w wr)
  case atStart => exact ⟨i + 1, by omega, by omega, HE.out, rfl⟩
  case round =>
    obtain ⟨k, hik, hk, hR, rfl⟩ := hrel
    have HR := Lib.hid hR
    clear hR HE hdig hlet
    have hm := endOf_tok w 2 i 0 k
    have hie : (i : Int) ≤ k := by omega
    have hes : (k : Int) ≤ s.size := by omega
    by_cases hlt : k < s.size
    · have hc := fun w => digitR_any s[k] w
      cases hp : isDgt s[k]
      · have HE := Lib.hid (HR.out.trans (run_no hlt hp))
        rw [hp] at hc
        rw [HE.out] at HT
        have hnumb := fun w0 => HN.out k w0 HE.out hik hk
        clear hp hm HN
        cases hb : badF ((s.data.toList.drop i).take (k - i))
        · have HT2 : Hid (tokF (s.data.toList.drop i) = .inr ⟨2, k - i, valF ((s.data.toList.drop i).take (k - i))⟩) := Lib.hid (HT.out.trans (by rw [hb]; rfl))
          have hnum := hnumb
          rw [hb] at hnum
          clear HT hb hnumb
          rw [tokW_eq]
          go_wp2_with (first | (go_at_call 114; refine (hc _).mono ?_; rintro e w1 ⟨rfl, rfl⟩) | (go_at_call 115; refine (hnum _).mono ?_; rintro e w1 ⟨⟨z, rfl, hz⟩, rfl⟩))
          refine bodyPost_ret (v := .tuple #[tokV 2 i k z, .int .i64 0]) (by rw [results_ct rfl]; go_simp; rfl) rfl ?_
          exact ⟨.inr ⟨_, HT2.out, by show _ = Ending.returned (.tuple #[tokV 2 i ((i + (k - i) : Nat) : Int) (valF ((s.data.toList.drop i).take (k - i)) : Nat), .int .i64 0]); rw [show i + (k - i) = k by omega, hz trivial]⟩, ((Below.refl _ _).alloc (Nat.le_refl _) _).alloc (by simp) _⟩
        · have HT2 : Hid (tokF (s.data.toList.drop i) = .inl 2) := Lib.hid (HT.out.trans (by rw [hb]; rfl))
          have hnum := hnumb
          rw [hb] at hnum
          clear HT hb hnumb
          rw [tokW_eq]
          go_wp2_with (first | (go_at_call 114; refine (hc _).mono ?_; rintro e w1 ⟨rfl, rfl⟩) | (go_at_call 115; refine (hnum _).mono ?_; rintro e w1 ⟨⟨z, rfl, hz⟩, rfl⟩))
          refine bodyPost_ret (v := .tuple #[tokV 0 0 0 0, .int .i64 2]) (by rw [results_ct rfl]; go_simp; rfl) rfl ?_
          exact ⟨.inl ⟨2, HT2.out, rfl⟩, ((Below.refl _ _).alloc (Nat.le_refl _) _).alloc (by simp) _⟩
      · have HE := Lib.hid (HR.out.trans (run_yes hlt hp))
        rw [hp] at hc
        clear hp HT HN
        have hm2 := endOf_tok w 2 i 0 (k + 1)
        have Hm := Lib.hid hm
        have Hm2 := Lib.hid hm2
        clear hm hm2
        rw [tokW_eq]
        go_wp2_with (go_at_call 114; refine (hc _).mono ?_; rintro e w1 ⟨rfl, rfl⟩)
        go_roundw
        case rel => exact ⟨k + 1, by omega, by omega, HE.out, by unfold tokW; rfl⟩
        case measure =>
          have h1 := Hm.out
          have h2 := Hm2.out
          unfold tokW at h1 h2
          have e : ((k + 1 : Nat) : Int) = (k : Int) + 1 := by omega
          rw [e] at h2
          rw [h1, h2]
          omega
    · have HE := Lib.hid (HR.out.trans (run_end (by omega)))
      rw [HE.out] at HT
      have hnumb := fun w0 => HN.out k w0 HE.out hik hk
      clear hm HN
      cases hb : badF ((s.data.toList.drop i).take (k - i))
      · have HT2 : Hid (tokF (s.data.toList.drop i) = .inr ⟨2, k - i, valF ((s.data.toList.drop i).take (k - i))⟩) := Lib.hid (HT.out.trans (by rw [hb]; rfl))
        have hnum := hnumb
        rw [hb] at hnum
        clear HT hb hnumb
        rw [tokW_eq]
        go_wp2_with (go_at_call 115; refine (hnum _).mono ?_; rintro e w1 ⟨⟨z, rfl, hz⟩, rfl⟩)
        refine bodyPost_ret (v := .tuple #[tokV 2 i k z, .int .i64 0]) (by rw [results_ct rfl]; go_simp; rfl) rfl ?_
        exact ⟨.inr ⟨_, HT2.out, by show _ = Ending.returned (.tuple #[tokV 2 i ((i + (k - i) : Nat) : Int) (valF ((s.data.toList.drop i).take (k - i)) : Nat), .int .i64 0]); rw [show i + (k - i) = k by omega, hz trivial]⟩, ((Below.refl _ _).alloc (Nat.le_refl _) _).alloc (by simp) _⟩
      · have HT2 : Hid (tokF (s.data.toList.drop i) = .inl 2) := Lib.hid (HT.out.trans (by rw [hb]; rfl))
        have hnum := hnumb
        rw [hb] at hnum
        clear HT hb hnumb
        rw [tokW_eq]
        go_wp2_with (go_at_call 115; refine (hnum _).mono ?_; rintro e w1 ⟨⟨z, rfl, hz⟩, rfl⟩)
        refine bodyPost_ret (v := .tuple #[tokV 0 0 0 0, .int .i64 2]) (by rw [results_ct rfl]; go_simp; rfl) rfl ?_
        exact ⟨.inl ⟨2, HT2.out, rfl⟩, ((Below.refl _ _).alloc (Nat.le_refl _) _).alloc (by simp) _⟩

set_option maxHeartbeats 2000000 in
theorem tokenRS_any (s : ByteArray) (i : Nat) (w : World) (hs : s.size ≤ 1000000) (hi : i < s.size) (hl : isLet s[i] = false) (hd : isDgt s[i] = false) :
    Calls Tryz.prog 56 #[.string s, .int .i64 (i : Int)] w fun e w' => TokSays s i e ∧ Below w.heap.size w w' := by
  have hlet := fun w => letterR_any s[i] w
  have hdig := fun w => digitR_any s[i] w
  rw [hl] at hlet
  rw [hd] at hdig
  have hsig := fun w => sign_any s i w hs hi
  have HT := Lib.hid (tok_sign hi hl hd)
  have hle := sign_le (s.data.toList.drop i)
  simp at hle
  generalize signF (s.data.toList.drop i) = R at *
  clear hl hd
  by_cases h0 : R = 0
  · have HT2 := Lib.hid (HT.out.trans (if_pos h0))
    subst h0
    clear HT
    go_enter Tryz.func56, Tryz.ntmps56
    go_wp2_with (first | (go_at_call 112; refine (hlet _).mono ?_; rintro e w1 ⟨rfl, rfl⟩) | (go_at_call 114; refine (hdig _).mono ?_; rintro e w1 ⟨rfl, rfl⟩) | (go_at_call 116; refine (hsig _).mono ?_; rintro e w1 ⟨rfl, rfl⟩))
    refine bodyPost_ret (v := .tuple #[tokV 0 0 0 0, .int .i64 4]) (by rw [results_ct rfl]; go_simp; rfl) rfl ?_
    exact ⟨.inl ⟨4, HT2.out, rfl⟩, ((Below.refl _ _).alloc (Nat.le_refl _) _).alloc (by simp) _⟩
  · have HT2 := Lib.hid (HT.out.trans (if_neg h0))
    have x0 : 0 < (R : Int) := by omega
    clear HT
    go_enter Tryz.func56, Tryz.ntmps56
    go_wp2_with (first | (go_at_call 112; refine (hlet _).mono ?_; rintro e w1 ⟨rfl, rfl⟩) | (go_at_call 114; refine (hdig _).mono ?_; rintro e w1 ⟨rfl, rfl⟩) | (go_at_call 116; refine (hsig _).mono ?_; rintro e w1 ⟨rfl, rfl⟩))
    refine bodyPost_ret (v := .tuple #[tokV 3 i ((i : Int) + R) 0, .int .i64 0]) (by rw [results_ct rfl]; go_simp; rfl) rfl ?_
    exact ⟨.inr ⟨_, HT2.out, by show _ = Ending.returned (.tuple #[tokV 3 i ((i + R : Nat) : Int) 0, .int .i64 0]); rw [Int.natCast_add]⟩, ((Below.refl _ _).alloc (Nat.le_refl _) _).alloc (by simp) _⟩
theorem tokenR_any (s : ByteArray) (i : Nat) (w : World) (hs : s.size ≤ 1000000) (hi : i < s.size) :
    Calls Tryz.prog 56 #[.string s, .int .i64 (i : Int)] w fun e w' => TokSays s i e ∧ Below w.heap.size w w' := by
  cases hl : isLet s[i] with
  | true => exact tokenRW_any s i w hs hi hl
  | false => cases hd : isDgt s[i] with
    | true => exact tokenRN_any s i w hs hi hl hd
    | false => exact tokenRS_any s i w hs hi hl hd
end Go.Proofs.YtdbahiepihkagaaGreatDoor
