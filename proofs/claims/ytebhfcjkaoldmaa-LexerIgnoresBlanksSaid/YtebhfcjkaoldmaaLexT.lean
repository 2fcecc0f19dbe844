/- What token of the program answers. -/
import Derived.Test.YtebhfcjkaoldmaaLexS
import Derived.Test.YtebhfcjkaoldmaaLexV
namespace Go.Proofs.Ytebhfcjkaoldmaa
open Go.RowKit

theorem cell_push' (w : World) (c : Array Value) (t : TypeId) (b i : Nat) : (w.alloc (.cells c t)).cell? ⟨b, i, none⟩ = if b = w.heap.size then c[i]? else w.cell? ⟨b, i, none⟩ := by
  split
  · rename_i h; rw [h]; exact World.cell?_alloc_new w c t i
  · rename_i h; exact World.cell?_alloc_old w _ _ h
theorem free_push' (w : World) (c : Array Value) (t : TypeId) (b i : Nat) : (w.alloc (.cells c t)).frozen? ⟨b, i, none⟩ = if b = w.heap.size then false else w.frozen? ⟨b, i, none⟩ := by
  split
  · rename_i h; rw [h]; exact World.frozen?_alloc_new w c t i
  · rename_i h; exact World.frozen?_alloc_old w _ _ h
theorem results_ct {fn : Func} {p u : Tmp} {ty : TypeId} (h : fn.results = #[.cell p ty, .tmp u]) (tmps : Array Value) (P : Program) (w : World) :
    (results fn tmps).run P w =
      ((asAddr (tmps.getD p undef)).run P w).andThen fun a w₁ => ((loadVar ty a).run P w₁).andThen fun x w₂ => .ok (.tuple #[x, tmps.getD u undef]) w₂ := by
  simp only [results, h]
  simp [Sem.run_bind, Result.andThen]

def tokV (k a e n : Int) : Value := .agg #[.int .i64 k, .int .i64 a, .int .i64 e, .int .i64 n]
/-- what token answers at place i -/
def TokSays (s : ByteArray) (i : Nat) (e : Ending) : Prop :=
  (∃ f : Nat, tokF (s.data.toList.drop i) = .inl f ∧ e = .returned (.tuple #[tokV 0 0 0 0, .int .i64 (f : Int)])) ∨
  (∃ t : Tk, tokF (s.data.toList.drop i) = .inr t ∧ e = .returned (.tuple #[tokV t.kind i ((i + t.len : Nat) : Int) t.num, .int .i64 0]))
theorem tok_word {s : ByteArray} {i : Nat} (h : i < s.size) (hl : isLet s[i] = true) : tokF (s.data.toList.drop i) = if 24 < runAt isIn s i - i then .inl 5 else .inr ⟨1, runAt isIn s i - i, 0⟩ := by
  unfold runAt
  rw [Nat.add_sub_cancel_left, drop_at s h]
  unfold tokF
  dsimp only
  rw [if_pos hl]
theorem tok_num {s : ByteArray} {i : Nat} (h : i < s.size) (hl : isLet s[i] = false) (hd : isDgt s[i] = true) : tokF (s.data.toList.drop i) = if badF ((s.data.toList.drop i).take (runAt isDgt s i - i)) then .inl 2 else .inr ⟨2, runAt isDgt s i - i, valF ((s.data.toList.drop i).take (runAt isDgt s i - i))⟩ := by
  unfold runAt
  rw [Nat.add_sub_cancel_left, drop_at s h]
  have h1 : runF isDgt (s[i] :: s.data.toList.drop (i + 1)) = runF isDgt (s.data.toList.drop (i + 1)) + 1 := by rw [runF, if_pos hd]
  have h2 := run_le isDgt (s.data.toList.drop (i + 1))
  have e : badF ((s[i] :: s.data.toList.drop (i + 1)).take (runF isDgt (s[i] :: s.data.toList.drop (i + 1)))) = ((s[i] == 48 && decide (1 < runF isDgt (s[i] :: s.data.toList.drop (i + 1)))) || decide (1073741824 < valF ((s[i] :: s.data.toList.drop (i + 1)).take (runF isDgt (s[i] :: s.data.toList.drop (i + 1)))))) := by
    unfold badF
    congr 2
    · rw [h1, List.take_succ_cons]
      rfl
    · rw [h1, List.take_succ_cons, List.length_cons, List.length_take, Nat.min_eq_left h2]
  rw [e]
  unfold tokF
  dsimp only
  rw [if_neg (by simp [hl]), if_pos hd]
theorem tok_sign {s : ByteArray} {i : Nat} (h : i < s.size) (hl : isLet s[i] = false) (hd : isDgt s[i] = false) : tokF (s.data.toList.drop i) = if signF (s.data.toList.drop i) = 0 then .inl 4 else .inr ⟨3, signF (s.data.toList.drop i), 0⟩ := by
  rw [drop_at s h]
  unfold tokF
  dsimp only
  rw [if_neg (by simp [hl]), if_neg (by simp [hd])]

set_option maxHeartbeats 2000000 in
theorem tokenW_any (s : ByteArray) (i : Nat) (w : World) (hs : s.size ≤ 1000000) (hi : i < s.size) (hl : isLet s[i] = true) :
    Calls Try.prog 22 #[.string s, .int .i64 (i : Int)] w fun e w' => TokSays s i e ∧ Below w.heap.size w w' := by
  have hlet := fun w => letter_any s[i] w
  rw [hl] at hlet
  have hbeh := fun w => behind_in s i w hs (by omega)
  have HT := Lib.hid (tok_word hi hl)
  obtain ⟨hE1, hE2⟩ := runAt_le isIn s (i := i) (by omega)
  generalize runAt isIn s i = E at *
  by_cases h24 : 24 < E - i
  · have HT2 := Lib.hid (HT.out.trans (if_pos h24))
    have h1 : 24 < (E : Int) - i := by omega
    clear HT hl
    go_enter Try.func22, Try.ntmps22
    go_wp2_with (first | (go_at_call 25; refine (hlet _).mono ?_; rintro e w1 ⟨rfl, rfl⟩) | (go_at_call 26; refine (hbeh _).mono ?_; rintro e w1 ⟨rfl, rfl⟩))
    refine bodyPost_ret (v := .tuple #[tokV 0 0 0 0, .int .i64 5]) (by rw [results_ct rfl]; go_simp; rfl) rfl ?_
    refine ⟨.inl ⟨5, HT2.out, rfl⟩, ?_⟩
    exact ((Below.refl _ _).alloc (Nat.le_refl _) _).alloc (by simp) _
  · have HT2 := Lib.hid (HT.out.trans (if_neg h24))
    have h1 : ¬ 24 < (E : Int) - i := by omega
    clear HT hl
    go_enter Try.func22, Try.ntmps22
    go_wp2_with (first | (go_at_call 25; refine (hlet _).mono ?_; rintro e w1 ⟨rfl, rfl⟩) | (go_at_call 26; refine (hbeh _).mono ?_; rintro e w1 ⟨rfl, rfl⟩))
    refine bodyPost_ret (v := .tuple #[tokV 1 i E 0, .int .i64 0]) (by rw [results_ct rfl]; go_simp; rfl) rfl ?_
    refine ⟨.inr ⟨_, HT2.out, by show _ = Ending.returned (.tuple #[tokV 1 i ((i + (E - i) : Nat) : Int) 0, .int .i64 0]); rw [show i + (E - i) = E by omega]⟩, ?_⟩
    exact ((Below.refl _ _).alloc (Nat.le_refl _) _).alloc (by simp) _

theorem run_digits {s : ByteArray} {i : Nat} : ∀ b ∈ (s.data.toList.drop i).take (runAt isDgt s i - i), isDgt b = true := by
  unfold runAt
  rw [Nat.add_sub_cancel_left]
  exact run_all isDgt _
theorem bad_head {s : ByteArray} {i n : Nat} (h : i < s.size) (h0 : 0 < n) (hn : n ≤ s.size - i) : badF ((s.data.toList.drop i).take n) = ((s[i] == 48 && decide (1 < n)) || decide (1073741824 < valF ((s.data.toList.drop i).take n))) := by
  unfold badF
  congr 2
  · rw [drop_at s h]
    obtain ⟨m, rfl⟩ : ∃ k, n = k + 1 := ⟨n - 1, by omega⟩
    rw [List.take_succ_cons]
    rfl
  · simp
    omega
theorem cap_gt (l : Bytes) : (1073741824 < capF l) = (1073741824 < valF l) := by
  unfold capF
  apply propext
  omega
theorem cap_le {l : Bytes} (h : ¬ 1073741824 < valF l) : capF l = valF l := by
  unfold capF
  omega
theorem run_pos {p : UInt8 → Bool} {s : ByteArray} {i : Nat} (h : i < s.size) (hp : p s[i] = true) : i < runAt p s i := by
  rw [run_yes h hp]
  have := runAt_le p s (i := i + 1) (by omega)
  omega

set_option maxHeartbeats 4000000 in
theorem tokenN_any (s : ByteArray) (i : Nat) (w : World) (hs : s.size ≤ 1000000) (hi : i < s.size) (hl : isLet s[i] = false) (hd : isDgt s[i] = true) :
    Calls Try.prog 22 #[.string s, .int .i64 (i : Int)] w fun e w' => TokSays s i e ∧ Below w.heap.size w w' := by
  have hlet := fun w => letter_any s[i] w
  have hdig := fun w => digit_any s[i] w
  rw [hl] at hlet
  rw [hd] at hdig
  have hbeh := fun w => behind_dg s i w hs (by omega)
  have HT := Lib.hid (tok_num hi hl hd)
  have hpos := run_pos hi hd
  obtain ⟨hE1, hE2⟩ := runAt_le isDgt s (i := i) (by omega)
  have hdg := run_digits (s := s) (i := i)
  generalize runAt isDgt s i = E at *
  have hval := fun w => value_any (s.extract i E) w (by
    rw [ByteArray.data_extract, Array.toList_extract]
    exact hdg)
  have hbad := bad_head hi (n := E - i) (by omega) (by omega)
  have e48 : ((s[i].toNat : Int) == 48) = (s[i] == 48) := byte_eq s[i] 48 (by decide)
  have hL : (s.extract i E).data.toList = (s.data.toList.drop i).take (E - i) := by rw [ByteArray.data_extract, Array.toList_extract]
  rw [hL] at hval
  clear hL hdg
  have HG := Lib.hid (cap_gt ((s.data.toList.drop i).take (E - i)))
  have HC := Lib.hid (@cap_le ((s.data.toList.drop i).take (E - i)))
  have hcl : capF ((s.data.toList.drop i).take (E - i)) ≤ 1073741825 := Nat.min_le_right _ _
  rw [hbad] at HT
  clear hbad
  generalize capF ((s.data.toList.drop i).take (E - i)) = C at *
  generalize valF ((s.data.toList.drop i).take (E - i)) = V at *
  have hie : (i : Int) ≤ E := by omega
  have hes : (E : Int) ≤ s.size := by omega
  clear hl hd
  by_cases h1 : 1 < E - i
  · have x1 : 1 < (E : Int) - i := by omega
    cases hz : s[i] == 48
    · by_cases h2 : 1073741824 < V
      · have HT2 := Lib.hid (HT.out.trans (if_pos (by simp [h2])))
        have x2 : 1073741824 < (C : Int) := by have := HG.out; rw [← this] at h2; omega
        rw [hz] at e48
        clear HT HG HC h2 hz
        go_enter Try.func22, Try.ntmps22
        go_wp2_with (first | (go_at_call 25; refine (hlet _).mono ?_; rintro e w1 ⟨rfl, rfl⟩) | (go_at_call 32; refine (hdig _).mono ?_; rintro e w1 ⟨rfl, rfl⟩) | (go_at_call 26; refine (hbeh _).mono ?_; rintro e w1 ⟨rfl, rfl⟩) | (go_at_call 33; refine (hval _).mono ?_; rintro e w1 ⟨rfl, hb1⟩; have r0 : w1.cell? ⟨w.heap.size, 0, none⟩ = some (.int .i64 0) := (hb1.cell (p := ⟨w.heap.size, 0, none⟩) (by simp; omega)).trans (by simp [cell_push']); have r1 : w1.cell? ⟨w.heap.size, 1, none⟩ = some (.int .i64 0) := (hb1.cell (p := ⟨w.heap.size, 1, none⟩) (by simp; omega)).trans (by simp [cell_push']); have r2 : w1.cell? ⟨w.heap.size, 2, none⟩ = some (.int .i64 0) := (hb1.cell (p := ⟨w.heap.size, 2, none⟩) (by simp; omega)).trans (by simp [cell_push']); have r3 : w1.cell? ⟨w.heap.size, 3, none⟩ = some (.int .i64 0) := (hb1.cell (p := ⟨w.heap.size, 3, none⟩) (by simp; omega)).trans (by simp [cell_push']); have t0 : w1.cell? ⟨w.heap.size + 1, 0, none⟩ = some (.int .i64 2) := (hb1.cell (p := ⟨w.heap.size + 1, 0, none⟩) (by simp)).trans (by simp [cell_push']); have t1 : w1.cell? ⟨w.heap.size + 1, 1, none⟩ = some (.int .i64 i) := (hb1.cell (p := ⟨w.heap.size + 1, 1, none⟩) (by simp)).trans (by simp [cell_push']); have t2 : w1.cell? ⟨w.heap.size + 1, 2, none⟩ = some (.int .i64 E) := (hb1.cell (p := ⟨w.heap.size + 1, 2, none⟩) (by simp)).trans (by simp [cell_push']); have t3 : w1.cell? ⟨w.heap.size + 1, 3, none⟩ = some (.int .i64 0) := (hb1.cell (p := ⟨w.heap.size + 1, 3, none⟩) (by simp)).trans (by simp [cell_push']); have q0 : w1.frozen? ⟨w.heap.size, 0, none⟩ = false := (hb1.frozen (p := ⟨w.heap.size, 0, none⟩) (by simp; omega)).trans (by simp [free_push']); have q1 : w1.frozen? ⟨w.heap.size, 1, none⟩ = false := (hb1.frozen (p := ⟨w.heap.size, 1, none⟩) (by simp; omega)).trans (by simp [free_push']); have q2 : w1.frozen? ⟨w.heap.size, 2, none⟩ = false := (hb1.frozen (p := ⟨w.heap.size, 2, none⟩) (by simp; omega)).trans (by simp [free_push']); have q3 : w1.frozen? ⟨w.heap.size, 3, none⟩ = false := (hb1.frozen (p := ⟨w.heap.size, 3, none⟩) (by simp; omega)).trans (by simp [free_push']); have q4 : w1.frozen? ⟨w.heap.size + 1, 3, none⟩ = false := (hb1.frozen (p := ⟨w.heap.size + 1, 3, none⟩) (by simp)).trans (by simp [free_push']); have B1 := Lib.hid (((((Below.refl _ _).alloc (Nat.le_refl w.heap.size) (.cells #[.int .i64 0, .int .i64 0, .int .i64 0, .int .i64 0] 32)).alloc (by simp) (.cells #[.int .i64 2, .int .i64 i, .int .i64 E, .int .i64 0] 32)).trans (hb1.mono (by simp; omega)))); clear hb1))
        refine bodyPost_ret (v := .tuple #[tokV 0 0 0 0, .int .i64 2]) (by rw [results_ct rfl]; go_simp; rfl) rfl ?_
        exact ⟨.inl ⟨2, HT2.out, rfl⟩, (((((B1.out.setCell (p := ⟨w.heap.size + 1, 3, none⟩) (by simp) _).setCell (p := ⟨w.heap.size, 0, none⟩) (by simp) _).setCell (p := ⟨w.heap.size, 1, none⟩) (by simp) _).setCell (p := ⟨w.heap.size, 2, none⟩) (by simp) _).setCell (p := ⟨w.heap.size, 3, none⟩) (by simp) _)⟩
      · have HC2 := Lib.hid (HC.out h2)
        have HT2 := Lib.hid (HT.out.trans (if_neg (by simp [h2, hz])))
        have x2 : ¬ 1073741824 < (C : Int) := by rw [HC2.out]; omega
        rw [hz] at e48
        clear HT HG HC h2 hz
        go_enter Try.func22, Try.ntmps22
        go_wp2_with (first | (go_at_call 25; refine (hlet _).mono ?_; rintro e w1 ⟨rfl, rfl⟩) | (go_at_call 32; refine (hdig _).mono ?_; rintro e w1 ⟨rfl, rfl⟩) | (go_at_call 26; refine (hbeh _).mono ?_; rintro e w1 ⟨rfl, rfl⟩) | (go_at_call 33; refine (hval _).mono ?_; rintro e w1 ⟨rfl, hb1⟩; have r0 : w1.cell? ⟨w.heap.size, 0, none⟩ = some (.int .i64 0) := (hb1.cell (p := ⟨w.heap.size, 0, none⟩) (by simp; omega)).trans (by simp [cell_push']); have r1 : w1.cell? ⟨w.heap.size, 1, none⟩ = some (.int .i64 0) := (hb1.cell (p := ⟨w.heap.size, 1, none⟩) (by simp; omega)).trans (by simp [cell_push']); have r2 : w1.cell? ⟨w.heap.size, 2, none⟩ = some (.int .i64 0) := (hb1.cell (p := ⟨w.heap.size, 2, none⟩) (by simp; omega)).trans (by simp [cell_push']); have r3 : w1.cell? ⟨w.heap.size, 3, none⟩ = some (.int .i64 0) := (hb1.cell (p := ⟨w.heap.size, 3, none⟩) (by simp; omega)).trans (by simp [cell_push']); have t0 : w1.cell? ⟨w.heap.size + 1, 0, none⟩ = some (.int .i64 2) := (hb1.cell (p := ⟨w.heap.size + 1, 0, none⟩) (by simp)).trans (by simp [cell_push']); have t1 : w1.cell? ⟨w.heap.size + 1, 1, none⟩ = some (.int .i64 i) := (hb1.cell (p := ⟨w.heap.size + 1, 1, none⟩) (by simp)).trans (by simp [cell_push']); have t2 : w1.cell? ⟨w.heap.size + 1, 2, none⟩ = some (.int .i64 E) := (hb1.cell (p := ⟨w.heap.size + 1, 2, none⟩) (by simp)).trans (by simp [cell_push']); have t3 : w1.cell? ⟨w.heap.size + 1, 3, none⟩ = some (.int .i64 0) := (hb1.cell (p := ⟨w.heap.size + 1, 3, none⟩) (by simp)).trans (by simp [cell_push']); have q0 : w1.frozen? ⟨w.heap.size, 0, none⟩ = false := (hb1.frozen (p := ⟨w.heap.size, 0, none⟩) (by simp; omega)).trans (by simp [free_push']); have q1 : w1.frozen? ⟨w.heap.size, 1, none⟩ = false := (hb1.frozen (p := ⟨w.heap.size, 1, none⟩) (by simp; omega)).trans (by simp [free_push']); have q2 : w1.frozen? ⟨w.heap.size, 2, none⟩ = false := (hb1.frozen (p := ⟨w.heap.size, 2, none⟩) (by simp; omega)).trans (by simp [free_push']); have q3 : w1.frozen? ⟨w.heap.size, 3, none⟩ = false := (hb1.frozen (p := ⟨w.heap.size, 3, none⟩) (by simp; omega)).trans (by simp [free_push']); have q4 : w1.frozen? ⟨w.heap.size + 1, 3, none⟩ = false := (hb1.frozen (p := ⟨w.heap.size + 1, 3, none⟩) (by simp)).trans (by simp [free_push']); have B1 := Lib.hid (((((Below.refl _ _).alloc (Nat.le_refl w.heap.size) (.cells #[.int .i64 0, .int .i64 0, .int .i64 0, .int .i64 0] 32)).alloc (by simp) (.cells #[.int .i64 2, .int .i64 i, .int .i64 E, .int .i64 0] 32)).trans (hb1.mono (by simp; omega)))); clear hb1))
        refine bodyPost_ret (v := .tuple #[tokV 2 i E C, .int .i64 0]) (by rw [results_ct rfl]; go_simp; rfl) rfl ?_
        exact ⟨.inr ⟨_, HT2.out, by show _ = Ending.returned (.tuple #[tokV 2 i ((i + (E - i) : Nat) : Int) (V : Nat), .int .i64 0]); rw [show i + (E - i) = E by omega, HC2.out]⟩, (((((B1.out.setCell (p := ⟨w.heap.size + 1, 3, none⟩) (by simp) _).setCell (p := ⟨w.heap.size, 0, none⟩) (by simp) _).setCell (p := ⟨w.heap.size, 1, none⟩) (by simp) _).setCell (p := ⟨w.heap.size, 2, none⟩) (by simp) _).setCell (p := ⟨w.heap.size, 3, none⟩) (by simp) _)⟩
    · have HT2 := Lib.hid (HT.out.trans (if_pos (by simp [h1, hz])))
      rw [hz] at e48
      clear HT HG HC hz
      go_enter Try.func22, Try.ntmps22
      go_wp2_with (first | (go_at_call 25; refine (hlet _).mono ?_; rintro e w1 ⟨rfl, rfl⟩) | (go_at_call 32; refine (hdig _).mono ?_; rintro e w1 ⟨rfl, rfl⟩) | (go_at_call 26; refine (hbeh _).mono ?_; rintro e w1 ⟨rfl, rfl⟩) | (go_at_call 33; refine (hval _).mono ?_; rintro e w1 ⟨rfl, hb1⟩; have r0 : w1.cell? ⟨w.heap.size, 0, none⟩ = some (.int .i64 0) := (hb1.cell (p := ⟨w.heap.size, 0, none⟩) (by simp; omega)).trans (by simp [cell_push']); have r1 : w1.cell? ⟨w.heap.size, 1, none⟩ = some (.int .i64 0) := (hb1.cell (p := ⟨w.heap.size, 1, none⟩) (by simp; omega)).trans (by simp [cell_push']); have r2 : w1.cell? ⟨w.heap.size, 2, none⟩ = some (.int .i64 0) := (hb1.cell (p := ⟨w.heap.size, 2, none⟩) (by simp; omega)).trans (by simp [cell_push']); have r3 : w1.cell? ⟨w.heap.size, 3, none⟩ = some (.int .i64 0) := (hb1.cell (p := ⟨w.heap.size, 3, none⟩) (by simp; omega)).trans (by simp [cell_push']); have t0 : w1.cell? ⟨w.heap.size + 1, 0, none⟩ = some (.int .i64 2) := (hb1.cell (p := ⟨w.heap.size + 1, 0, none⟩) (by simp)).trans (by simp [cell_push']); have t1 : w1.cell? ⟨w.heap.size + 1, 1, none⟩ = some (.int .i64 i) := (hb1.cell (p := ⟨w.heap.size + 1, 1, none⟩) (by simp)).trans (by simp [cell_push']); have t2 : w1.cell? ⟨w.heap.size + 1, 2, none⟩ = some (.int .i64 E) := (hb1.cell (p := ⟨w.heap.size + 1, 2, none⟩) (by simp)).trans (by simp [cell_push']); have t3 : w1.cell? ⟨w.heap.size + 1, 3, none⟩ = some (.int .i64 0) := (hb1.cell (p := ⟨w.heap.size + 1, 3, none⟩) (by simp)).trans (by simp [cell_push']); have q0 : w1.frozen? ⟨w.heap.size, 0, none⟩ = false := (hb1.frozen (p := ⟨w.heap.size, 0, none⟩) (by simp; omega)).trans (by simp [free_push']); have q1 : w1.frozen? ⟨w.heap.size, 1, none⟩ = false := (hb1.frozen (p := ⟨w.heap.size, 1, none⟩) (by simp; omega)).trans (by simp [free_push']); have q2 : w1.frozen? ⟨w.heap.size, 2, none⟩ = false := (hb1.frozen (p := ⟨w.heap.size, 2, none⟩) (by simp; omega)).trans (by simp [free_push']); have q3 : w1.frozen? ⟨w.heap.size, 3, none⟩ = false := (hb1.frozen (p := ⟨w.heap.size, 3, none⟩) (by simp; omega)).trans (by simp [free_push']); have q4 : w1.frozen? ⟨w.heap.size + 1, 3, none⟩ = false := (hb1.frozen (p := ⟨w.heap.size + 1, 3, none⟩) (by simp)).trans (by simp [free_push']); have B1 := Lib.hid (((((Below.refl _ _).alloc (Nat.le_refl w.heap.size) (.cells #[.int .i64 0, .int .i64 0, .int .i64 0, .int .i64 0] 32)).alloc (by simp) (.cells #[.int .i64 2, .int .i64 i, .int .i64 E, .int .i64 0] 32)).trans (hb1.mono (by simp; omega)))); clear hb1))
      refine bodyPost_ret (v := .tuple #[tokV 0 0 0 0, .int .i64 2]) (by rw [results_ct rfl]; go_simp; rfl) rfl ?_
      exact ⟨.inl ⟨2, HT2.out, rfl⟩, (((((B1.out.setCell (p := ⟨w.heap.size + 1, 3, none⟩) (by simp) _).setCell (p := ⟨w.heap.size, 0, none⟩) (by simp) _).setCell (p := ⟨w.heap.size, 1, none⟩) (by simp) _).setCell (p := ⟨w.heap.size, 2, none⟩) (by simp) _).setCell (p := ⟨w.heap.size, 3, none⟩) (by simp) _)⟩
  · have x1 : ¬ 1 < (E : Int) - i := by omega
    by_cases h2 : 1073741824 < V
    · have HT2 := Lib.hid (HT.out.trans (if_pos (by simp [h2])))
      have x2 : 1073741824 < (C : Int) := by have := HG.out; rw [← this] at h2; omega
      clear HT HG HC h2
      cases hz : s[i] == 48
      all_goals
        rw [hz] at e48
        clear hz
        go_enter Try.func22, Try.ntmps22
        go_wp2_with (first | (go_at_call 25; refine (hlet _).mono ?_; rintro e w1 ⟨rfl, rfl⟩) | (go_at_call 32; refine (hdig _).mono ?_; rintro e w1 ⟨rfl, rfl⟩) | (go_at_call 26; refine (hbeh _).mono ?_; rintro e w1 ⟨rfl, rfl⟩) | (go_at_call 33; refine (hval _).mono ?_; rintro e w1 ⟨rfl, hb1⟩; have r0 : w1.cell? ⟨w.heap.size, 0, none⟩ = some (.int .i64 0) := (hb1.cell (p := ⟨w.heap.size, 0, none⟩) (by simp; omega)).trans (by simp [cell_push']); have r1 : w1.cell? ⟨w.heap.size, 1, none⟩ = some (.int .i64 0) := (hb1.cell (p := ⟨w.heap.size, 1, none⟩) (by simp; omega)).trans (by simp [cell_push']); have r2 : w1.cell? ⟨w.heap.size, 2, none⟩ = some (.int .i64 0) := (hb1.cell (p := ⟨w.heap.size, 2, none⟩) (by simp; omega)).trans (by simp [cell_push']); have r3 : w1.cell? ⟨w.heap.size, 3, none⟩ = some (.int .i64 0) := (hb1.cell (p := ⟨w.heap.size, 3, none⟩) (by simp; omega)).trans (by simp [cell_push']); have t0 : w1.cell? ⟨w.heap.size + 1, 0, none⟩ = some (.int .i64 2) := (hb1.cell (p := ⟨w.heap.size + 1, 0, none⟩) (by simp)).trans (by simp [cell_push']); have t1 : w1.cell? ⟨w.heap.size + 1, 1, none⟩ = some (.int .i64 i) := (hb1.cell (p := ⟨w.heap.size + 1, 1, none⟩) (by simp)).trans (by simp [cell_push']); have t2 : w1.cell? ⟨w.heap.size + 1, 2, none⟩ = some (.int .i64 E) := (hb1.cell (p := ⟨w.heap.size + 1, 2, none⟩) (by simp)).trans (by simp [cell_push']); have t3 : w1.cell? ⟨w.heap.size + 1, 3, none⟩ = some (.int .i64 0) := (hb1.cell (p := ⟨w.heap.size + 1, 3, none⟩) (by simp)).trans (by simp [cell_push']); have q0 : w1.frozen? ⟨w.heap.size, 0, none⟩ = false := (hb1.frozen (p := ⟨w.heap.size, 0, none⟩) (by simp; omega)).trans (by simp [free_push']); have q1 : w1.frozen? ⟨w.heap.size, 1, none⟩ = false := (hb1.frozen (p := ⟨w.heap.size, 1, none⟩) (by simp; omega)).trans (by simp [free_push']); have q2 : w1.frozen? ⟨w.heap.size, 2, none⟩ = false := (hb1.frozen (p := ⟨w.heap.size, 2, none⟩) (by simp; omega)).trans (by simp [free_push']); have q3 : w1.frozen? ⟨w.heap.size, 3, none⟩ = false := (hb1.frozen (p := ⟨w.heap.size, 3, none⟩) (by simp; omega)).trans (by simp [free_push']); have q4 : w1.frozen? ⟨w.heap.size + 1, 3, none⟩ = false := (hb1.frozen (p := ⟨w.heap.size + 1, 3, none⟩) (by simp)).trans (by simp [free_push']); have B1 := Lib.hid (((((Below.refl _ _).alloc (Nat.le_refl w.heap.size) (.cells #[.int .i64 0, .int .i64 0, .int .i64 0, .int .i64 0] 32)).alloc (by simp) (.cells #[.int .i64 2, .int .i64 i, .int .i64 E, .int .i64 0] 32)).trans (hb1.mono (by simp; omega)))); clear hb1))
        refine bodyPost_ret (v := .tuple #[tokV 0 0 0 0, .int .i64 2]) (by rw [results_ct rfl]; go_simp; rfl) rfl ?_
        exact ⟨.inl ⟨2, HT2.out, rfl⟩, (((((B1.out.setCell (p := ⟨w.heap.size + 1, 3, none⟩) (by simp) _).setCell (p := ⟨w.heap.size, 0, none⟩) (by simp) _).setCell (p := ⟨w.heap.size, 1, none⟩) (by simp) _).setCell (p := ⟨w.heap.size, 2, none⟩) (by simp) _).setCell (p := ⟨w.heap.size, 3, none⟩) (by simp) _)⟩
    · have HC2 := Lib.hid (HC.out h2)
      have HT2 := Lib.hid (HT.out.trans (if_neg (by simp [h2, h1])))
      have x2 : ¬ 1073741824 < (C : Int) := by rw [HC2.out]; omega
      clear HT HG HC h2
      cases hz : s[i] == 48
      all_goals
        rw [hz] at e48
        clear hz
        go_enter Try.func22, Try.ntmps22
        go_wp2_with (first | (go_at_call 25; refine (hlet _).mono ?_; rintro e w1 ⟨rfl, rfl⟩) | (go_at_call 32; refine (hdig _).mono ?_; rintro e w1 ⟨rfl, rfl⟩) | (go_at_call 26; refine (hbeh _).mono ?_; rintro e w1 ⟨rfl, rfl⟩) | (go_at_call 33; refine (hval _).mono ?_; rintro e w1 ⟨rfl, hb1⟩; have r0 : w1.cell? ⟨w.heap.size, 0, none⟩ = some (.int .i64 0) := (hb1.cell (p := ⟨w.heap.size, 0, none⟩) (by simp; omega)).trans (by simp [cell_push']); have r1 : w1.cell? ⟨w.heap.size, 1, none⟩ = some (.int .i64 0) := (hb1.cell (p := ⟨w.heap.size, 1, none⟩) (by simp; omega)).trans (by simp [cell_push']); have r2 : w1.cell? ⟨w.heap.size, 2, none⟩ = some (.int .i64 0) := (hb1.cell (p := ⟨w.heap.size, 2, none⟩) (by simp; omega)).trans (by simp [cell_push']); have r3 : w1.cell? ⟨w.heap.size, 3, none⟩ = some (.int .i64 0) := (hb1.cell (p := ⟨w.heap.size, 3, none⟩) (by simp; omega)).trans (by simp [cell_push']); have t0 : w1.cell? ⟨w.heap.size + 1, 0, none⟩ = some (.int .i64 2) := (hb1.cell (p := ⟨w.heap.size + 1, 0, none⟩) (by simp)).trans (by simp [cell_push']); have t1 : w1.cell? ⟨w.heap.size + 1, 1, none⟩ = some (.int .i64 i) := (hb1.cell (p := ⟨w.heap.size + 1, 1, none⟩) (by simp)).trans (by simp [cell_push']); have t2 : w1.cell? ⟨w.heap.size + 1, 2, none⟩ = some (.int .i64 E) := (hb1.cell (p := ⟨w.heap.size + 1, 2, none⟩) (by simp)).trans (by simp [cell_push']); have t3 : w1.cell? ⟨w.heap.size + 1, 3, none⟩ = some (.int .i64 0) := (hb1.cell (p := ⟨w.heap.size + 1, 3, none⟩) (by simp)).trans (by simp [cell_push']); have q0 : w1.frozen? ⟨w.heap.size, 0, none⟩ = false := (hb1.frozen (p := ⟨w.heap.size, 0, none⟩) (by simp; omega)).trans (by simp [free_push']); have q1 : w1.frozen? ⟨w.heap.size, 1, none⟩ = false := (hb1.frozen (p := ⟨w.heap.size, 1, none⟩) (by simp; omega)).trans (by simp [free_push']); have q2 : w1.frozen? ⟨w.heap.size, 2, none⟩ = false := (hb1.frozen (p := ⟨w.heap.size, 2, none⟩) (by simp; omega)).trans (by simp [free_push']); have q3 : w1.frozen? ⟨w.heap.size, 3, none⟩ = false := (hb1.frozen (p := ⟨w.heap.size, 3, none⟩) (by simp; omega)).trans (by simp [free_push']); have q4 : w1.frozen? ⟨w.heap.size + 1, 3, none⟩ = false := (hb1.frozen (p := ⟨w.heap.size + 1, 3, none⟩) (by simp)).trans (by simp [free_push']); have B1 := Lib.hid (((((Below.refl _ _).alloc (Nat.le_refl w.heap.size) (.cells #[.int .i64 0, .int .i64 0, .int .i64 0, .int .i64 0] 32)).alloc (by simp) (.cells #[.int .i64 2, .int .i64 i, .int .i64 E, .int .i64 0] 32)).trans (hb1.mono (by simp; omega)))); clear hb1))
        refine bodyPost_ret (v := .tuple #[tokV 2 i E C, .int .i64 0]) (by rw [results_ct rfl]; go_simp; rfl) rfl ?_
        exact ⟨.inr ⟨_, HT2.out, by show _ = Ending.returned (.tuple #[tokV 2 i ((i + (E - i) : Nat) : Int) (V : Nat), .int .i64 0]); rw [show i + (E - i) = E by omega, HC2.out]⟩, (((((B1.out.setCell (p := ⟨w.heap.size + 1, 3, none⟩) (by simp) _).setCell (p := ⟨w.heap.size, 0, none⟩) (by simp) _).setCell (p := ⟨w.heap.size, 1, none⟩) (by simp) _).setCell (p := ⟨w.heap.size, 2, none⟩) (by simp) _).setCell (p := ⟨w.heap.size, 3, none⟩) (by simp) _)⟩

set_option maxHeartbeats 2000000 in
theorem tokenS_any (s : ByteArray) (i : Nat) (w : World) (hs : s.size ≤ 1000000) (hi : i < s.size) (hl : isLet s[i] = false) (hd : isDgt s[i] = false) :
    Calls Try.prog 22 #[.string s, .int .i64 (i : Int)] w fun e w' => TokSays s i e ∧ Below w.heap.size w w' := by
  have hlet := fun w => letter_any s[i] w
  have hdig := fun w => digit_any s[i] w
  rw [hl] at hlet
  rw [hd] at hdig
  have hsig := fun w => behindSign_any s i w hs hi
  have HT := Lib.hid (tok_sign hi hl hd)
  generalize signF (s.data.toList.drop i) = R at *
  clear hl hd
  by_cases h0 : R = 0
  · have HT2 := Lib.hid (HT.out.trans (if_pos h0))
    have x0 : ((i : Int) + R == i) = true := by simp; omega
    clear HT
    go_enter Try.func22, Try.ntmps22
    go_wp2_with (first | (go_at_call 25; refine (hlet _).mono ?_; rintro e w1 ⟨rfl, rfl⟩) | (go_at_call 32; refine (hdig _).mono ?_; rintro e w1 ⟨rfl, rfl⟩) | (go_at_call 34; refine (hsig _).mono ?_; rintro e w1 ⟨rfl, rfl⟩))
    refine bodyPost_ret (v := .tuple #[tokV 0 0 0 0, .int .i64 4]) (by rw [results_ct rfl]; go_simp; rfl) rfl ?_
    exact ⟨.inl ⟨4, HT2.out, rfl⟩, ((Below.refl _ _).alloc (Nat.le_refl _) _).alloc (by simp) _⟩
  · have HT2 := Lib.hid (HT.out.trans (if_neg h0))
    have x0 : ((i : Int) + R == i) = false := by simp; omega
    clear HT
    go_enter Try.func22, Try.ntmps22
    go_wp2_with (first | (go_at_call 25; refine (hlet _).mono ?_; rintro e w1 ⟨rfl, rfl⟩) | (go_at_call 32; refine (hdig _).mono ?_; rintro e w1 ⟨rfl, rfl⟩) | (go_at_call 34; refine (hsig _).mono ?_; rintro e w1 ⟨rfl, rfl⟩))
    refine bodyPost_ret (v := .tuple #[tokV 3 i ((i : Int) + R) 0, .int .i64 0]) (by rw [results_ct rfl]; go_simp; rfl) rfl ?_
    exact ⟨.inr ⟨_, HT2.out, by show _ = Ending.returned (.tuple #[tokV 3 i ((i + R : Nat) : Int) 0, .int .i64 0]); rw [Int.natCast_add]⟩, ((Below.refl _ _).alloc (Nat.le_refl _) _).alloc (by simp) _⟩
theorem token_any (s : ByteArray) (i : Nat) (w : World) (hs : s.size ≤ 1000000) (hi : i < s.size) :
    Calls Try.prog 22 #[.string s, .int .i64 (i : Int)] w fun e w' => TokSays s i e ∧ Below w.heap.size w w' := by
  cases hl : isLet s[i] with
  | true => exact tokenW_any s i w hs hi hl
  | false => cases hd : isDgt s[i] with
    | true => exact tokenN_any s i w hs hi hl hd
    | false => exact tokenS_any s i w hs hi hl hd
end Go.Proofs.Ytebhfcjkaoldmaa
