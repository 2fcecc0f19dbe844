/- What Scan of both sides answers. -/
import Derived.Test.YtckofngclgkajaaLexV
namespace Go.Proofs.Ytckofngclgkajaa
set_option maxRecDepth 100000
open Go.RowKit

theorem cell_push' (w : World) (c : Array Value) (t : TypeId) (b i : Nat) : (w.alloc (.cells c t)).cell? ⟨b, i, none⟩ = if b = w.heap.size then c[i]? else w.cell? ⟨b, i, none⟩ := by
  split
  · rename_i h; rw [h]; exact World.cell?_alloc_new w c t i
  · rename_i h; exact World.cell?_alloc_old w _ _ h
theorem free_push' (w : World) (c : Array Value) (t : TypeId) (b i : Nat) : (w.alloc (.cells c t)).frozen? ⟨b, i, none⟩ = if b = w.heap.size then false else w.frozen? ⟨b, i, none⟩ := by
  split
  · rename_i h; rw [h]; exact World.frozen?_alloc_new w c t i
  · rename_i h; exact World.frozen?_alloc_old w _ _ h
theorem results_ct {fn : Func} {p u : Tmp} {ty : TypeId} (h : fn.results = #[.cell p ty, .tmp u]) (tmps : Array Value) (P : Program) (w : World) :
    (results fn tmps).run P w =
      ((asAddr (tmps.getD p undef)).run P w).andThen fun a w₁ => ((loadVar ty a).run P w₁).andThen fun x w₂ => .ok (.tuple #[x, tmps.getD u undef]) w₂ := by
  simp only [results, h]
  simp [Sem.run_bind, Result.andThen]

def tokV (k a e n : Int) : Value := .agg #[.int .i64 k, .int .i64 a, .int .i64 e, .int .i64 n]
/-- what token answers at place i -/
def TokSays (s : ByteArray) (i : Nat) (e : Ending) : Prop :=
  (∃ f : Nat, tokF (s.data.toList.drop i) = .inl f ∧ e = .returned (.tuple #[tokV 0 0 0 0, .int .i64 (f : Int)])) ∨
  (∃ t : Tk, tokF (s.data.toList.drop i) = .inr t ∧ e = .returned (.tuple #[tokV t.kind i ((i + t.len : Nat) : Int) t.num, .int .i64 0]))
theorem tok_word {s : ByteArray} {i : Nat} (h : i < s.size) (hl : isLet s[i] = true) : tokF (s.data.toList.drop i) = if 24 < runAt isIn s i - i then .inl 5 else .inr ⟨1, runAt isIn s i - i, 0⟩ := by
  unfold runAt
  rw [Nat.add_sub_cancel_left, drop_at s h]
  unfold tokF
  dsimp only
  rw [if_pos hl]
theorem tok_num {s : ByteArray} {i : Nat} (h : i < s.size) (hl : isLet s[i] = false) (hd : isDgt s[i] = true) : tokF (s.data.toList.drop i) = if badF ((s.data.toList.drop i).take (runAt isDgt s i - i)) then .inl 2 else .inr ⟨2, runAt isDgt s i - i, valF ((s.data.toList.drop i).take (runAt isDgt s i - i))⟩ := by
  unfold runAt
  rw [Nat.add_sub_cancel_left, drop_at s h]
  have h1 : runF isDgt (s[i] :: s.data.toList.drop (i + 1)) = runF isDgt (s.data.toList.drop (i + 1)) + 1 := by rw [runF, if_pos hd]
  have h2 := run_le isDgt (s.data.toList.drop (i + 1))
  have e : badF ((s[i] :: s.data.toList.drop (i + 1)).take (runF isDgt (s[i] :: s.data.toList.drop (i + 1)))) = ((s[i] == 48 && decide (1 < runF isDgt (s[i] :: s.data.toList.drop (i + 1)))) || decide (1073741824 < valF ((s[i] :: s.data.toList.drop (i + 1)).take (runF isDgt (s[i] :: s.data.toList.drop (i + 1)))))) := by
    unfold badF
    congr 2
    · rw [h1, List.take_succ_cons]
      rfl
    · rw [h1, List.take_succ_cons, List.length_cons, List.length_take, Nat.min_eq_left h2]
  rw [e]
  unfold tokF
  dsimp only
  rw [if_neg (by simp [hl]), if_pos hd]
theorem tok_sign {s : ByteArray} {i : Nat} (h : i < s.size) (hl : isLet s[i] = false) (hd : isDgt s[i] = false) : tokF (s.data.toList.drop i) = if signF (s.data.toList.drop i) = 0 then .inl 4 else .inr ⟨3, signF (s.data.toList.drop i), 0⟩ := by
  rw [drop_at s h]
  unfold tokF
  dsimp only
  rw [if_neg (by simp [hl]), if_neg (by simp [hd])]

theorem run_digits {s : ByteArray} {i : Nat} : ∀ b ∈ (s.data.toList.drop i).take (runAt isDgt s i - i), isDgt b = true := by
  unfold runAt
  rw [Nat.add_sub_cancel_left]
  exact run_all isDgt _
theorem bad_head {s : ByteArray} {i n : Nat} (h : i < s.size) (h0 : 0 < n) (hn : n ≤ s.size - i) : badF ((s.data.toList.drop i).take n) = ((s[i] == 48 && decide (1 < n)) || decide (1073741824 < valF ((s.data.toList.drop i).take n))) := by
  unfold badF
  congr 2
  · rw [drop_at s h]
    obtain ⟨m, rfl⟩ : ∃ k, n = k + 1 := ⟨n - 1, by omega⟩
    rw [List.take_succ_cons]
    rfl
  · simp
    omega
theorem cap_gt (l : Bytes) : (1073741824 < capF l) = (1073741824 < valF l) := by
  unfold capF
  apply propext
  omega
theorem cap_le {l : Bytes} (h : ¬ 1073741824 < valF l) : capF l = valF l := by
  unfold capF
  omega
theorem run_pos {p : UInt8 → Bool} {s : ByteArray} {i : Nat} (h : i < s.size) (hp : p s[i] = true) : i < runAt p s i := by
  rw [run_yes h hp]
  have := runAt_le p s (i := i + 1) (by omega)
  omega

end Go.Proofs.Ytckofngclgkajaa
namespace Go.Proofs.Ytckofngclgkajaa
set_option maxRecDepth 100000
open Go.RowKit

end Go.Proofs.Ytckofngclgkajaa
namespace Go.Proofs.Ytckofngclgkajaa
set_option maxRecDepth 100000
open Go.RowKit

def endOf (w wr : World) : Nat := (intOf ((wr.cell? ⟨w.heap.size + 1, 2, none⟩).getD undef)).toNat
end Go.Proofs.Ytckofngclgkajaa
namespace Go.Proofs.Ytckofngclgkajaa
open Go.RowKit

theorem gap_bl {s : ByteArray} {k : Nat} (h : k < s.size) (hb : isBl s[k] = true) : gapC false s k = gapC false s (k + 1) := by
  have h1 : nextC false s[k] = false := by
    unfold nextC
    simp [isBl] at hb
    rcases hb with ((e | e) | e) | e <;> rw [e] <;> rfl
  rw [gap_yes h (by simp [hb]), h1]
theorem gap_hash {s : ByteArray} {k : Nat} (h : k < s.size) (hb : (s[k] == 35) = true) : gapC false s k = gapC true s k := by
  have h1 : ∀ c, nextC c s[k] = true := fun c => by simp [nextC, hb]
  rw [gap_yes h (by simp [h1]), gap_yes h (by simp [h1]), h1, h1]
theorem gap_in {s : ByteArray} {k : Nat} (h : k < s.size) (hb : (s[k] != 10) = true) : gapC true s k = gapC true s (k + 1) := by
  have h1 : nextC true s[k] = true := by simp [nextC, hb]
  rw [gap_yes h (by simp [h1]), h1]
theorem gap_lf {s : ByteArray} {k : Nat} (h : k < s.size) (hb : (s[k] != 10) = false) : gapC true s k = gapC false s k := by
  have e : s[k] = 10 := by simpa using hb
  have h1 : ∀ c, nextC c s[k] = false := fun c => by rw [e]; simp [nextC]
  have h2 : isBl s[k] = true := by rw [e]; rfl
  rw [gap_yes h (by simp [h2]), gap_yes h (by simp [h2]), h1, h1]
theorem gap_stay {s : ByteArray} {k : Nat} (h : k < s.size) (h1 : isBl s[k] = false) (h2 : (s[k] == 35) = false) : gapC false s k = k := gap_no h (by simp [nextC, h1, h2])
theorem bl_of {b : UInt8} (h : (b == 32) = true ∨ (b == 9) = true ∨ (b == 10) = true ∨ (b == 13) = true) : isBl b = true := by
  simp [isBl]
  simp at h
  rcases h with h | h | h | h <;> simp [h]
theorem bl_not {b : UInt8} (h1 : (b == 32) = false) (h2 : (b == 9) = false) (h3 : (b == 10) = false) (h4 : (b == 13) = false) : isBl b = false := by simp [isBl, h1, h2, h3, h4]
theorem bl_hash {b : UInt8} (h1 : (b == 35) = true) : (b == 32) = false ∧ (b == 9) = false ∧ (b == 10) = false ∧ (b == 13) = false := by
  have e : b = 35 := by simpa using h1
  subst e
  exact ⟨rfl, rfl, rfl, rfl⟩
end Go.Proofs.Ytckofngclgkajaa
namespace Go.Proofs.Ytckofngclgkajaa
set_option maxRecDepth 100000
open Go.RowKit

def tokCells (ts : List Tok) : List Value := ts.flatMap fun t => [.int .i64 (t.kind : Int), .int .i64 (t.at_ : Int), .int .i64 (t.end_ : Int), .int .i64 (t.num : Int)]
theorem tokCells_len (ts : List Tok) : (tokCells ts).length = ts.length * 4 := by
  induction ts with
  | nil => rfl
  | cons t ts ih =>
    have e : tokCells (t :: ts) = .int .i64 (t.kind : Int) :: .int .i64 (t.at_ : Int) :: .int .i64 (t.end_ : Int) :: .int .i64 (t.num : Int) :: tokCells ts := rfl
    rw [e]
    simp [ih]
    omega
theorem tokCells_snoc (ts : List Tok) (t : Tok) : tokCells (ts ++ [t]) = tokCells ts ++ [.int .i64 (t.kind : Int), .int .i64 (t.at_ : Int), .int .i64 (t.end_ : Int), .int .i64 (t.num : Int)] := by simp [tokCells]
theorem new_cells (w : World) (cs : Array Value) (t : TypeId) (j : Nat) (u : Value) (h : cs.toList[j]? = some u) : (w.alloc (.cells cs t)).cell? ((⟨w.heap.size, 0, none⟩ : Addr).add j) = some u := by
  rw [add_none, Nat.zero_add, World.cell?_alloc_new]
  simpa using h
theorem new_cells2 (w : World) (o : Obj) (cs : Array Value) (t : TypeId) (j : Nat) (u : Value) (h : cs.toList[j]? = some u) : ((w.alloc o).alloc (.cells cs t)).cell? ((⟨w.heap.size + 1, 0, none⟩ : Addr).add j) = some u := by
  have := new_cells (w.alloc o) cs t j u h
  simpa using this
theorem own_slice {w : World} {base : Nat} {e : TypeId} {s : Nat} {v : Value} {n : Nat} {xs : List Value} (h : w.ownsRow base e s v n xs) : ∃ a c, v = .slice a n c ∧ n ≤ maxLen ∧ (0 < n → ∃ g, a = some ⟨g, 0, none⟩ ∧ g < w.heap.size) := by
  rcases h.2 with ⟨rfl, rfl⟩ | ⟨g, cap, cur, rfl, _, hg, h1, h2, _⟩
  · exact ⟨none, 0, rfl, by unfold maxLen; omega, fun h => absurd h (by omega)⟩
  · exact ⟨some ⟨g, 0, none⟩, cap, rfl, by omega, fun _ => ⟨g, rfl, (Array.getElem?_eq_some_iff.1 hg).1⟩⟩
theorem own_cell {w : World} {base : Nat} {e : TypeId} {s : Nat} {g n c : Nat} {xs : List Value} (h : w.ownsRow base e s (.slice (some ⟨g, 0, none⟩) n c) n xs) {j : Nat} {u : Value} (hu : xs[j]? = some u) : w.cell? ⟨g, 0 + j, none⟩ = some u := by
  have := World.ownsRow.cells h (g := g) rfl j u hu
  rw [add_none] at this
  exact this
theorem own_below {w w' : World} {base B : Nat} {e : TypeId} {s : Nat} {v : Value} {n : Nat} {xs : List Value} (h : w.ownsRow base e s v n xs) (hb : Below B w w') (hB : B = w.heap.size) : w'.ownsRow base e s v n xs := by
  subst hB
  exact World.ownsRow.kept h (row := none) ⟨hb.os, hb.tape, hb.output, hb.size, fun k hk _ => hb.block k hk⟩ (by cases Value.ownBlock _ <;> simp)
theorem tok_errs {l : Bytes} {f : Nat} (h : tokF l = .inl f) : f = 4 ∨ f = 5 ∨ f = 2 := by
  unfold tokF at h
  split at h
  · injection h with h; exact .inl h.symm
  · split at h
    · split at h
      · injection h with h; exact .inr (.inl h.symm)
      · cases h
    · split at h
      · split at h
        · injection h with h; exact .inr (.inr h.symm)
        · cases h
      · split at h
        · injection h with h; exact .inl h.symm
        · cases h
/-- the scan so far: the tokens ts stand before place j, at which there is no gap -/
def Sofar (s : ByteArray) (ts : List Tok) (j : Nat) : Prop := scanB s.data.toList = andThen ts (scanR ts.length j (s.data.toList.drop j))
theorem Sofar.start {s : ByteArray} (h : s.size ≤ 16384) : Sofar s [] (gapAt s 0) := by
  unfold Sofar scanB gapAt
  rw [if_neg (by simp; omega), andThen_nil, scanG_R]
  simp
theorem Sofar.full {s : ByteArray} {ts : List Tok} {j : Nat} (h : Sofar s ts j) (hj : j < s.size) (h4 : ts.length = 4096) : scanB s.data.toList = .inl (j, 3) := by
  unfold Sofar at h
  rw [h]
  unfold scanR
  rw [if_neg (by rw [drop_at s hj]; simp), if_pos h4]
  rfl
theorem Sofar.bad {s : ByteArray} {ts : List Tok} {j f : Nat} (h : Sofar s ts j) (hj : j < s.size) (h4 : ts.length ≠ 4096) (hf : tokF (s.data.toList.drop j) = .inl f) : scanB s.data.toList = .inl (j, f) := by
  unfold Sofar at h
  rw [h]
  unfold scanR
  rw [if_neg (by rw [drop_at s hj]; simp), if_neg h4, hf]
  rfl
theorem Sofar.next {s : ByteArray} {ts : List Tok} {j : Nat} {t : Tk} (h : Sofar s ts j) (h4 : ts.length ≠ 4096) (ht : tokF (s.data.toList.drop j) = .inr t) : Sofar s (ts ++ [tokOf j t]) (gapAt s (j + t.len)) := by
  unfold Sofar at h ⊢
  rw [h, scanR_tok ht h4, ← andThen_app, scanG_R, List.drop_drop, List.drop_drop]
  unfold gapAt
  simp only [List.length_append, List.length_singleton]
theorem Sofar.done {s : ByteArray} {ts : List Tok} {j : Nat} (h : Sofar s ts j) (hj : s.size ≤ j) : scanB s.data.toList = .inr ts := by
  unfold Sofar at h
  rw [h, drop_end s hj]
  simp [scanR, andThen]
theorem scan_long {s : ByteArray} (h : 16384 < s.size) : scanB s.data.toList = .inl (0, 3) := by
  unfold scanB
  rw [if_pos (by simpa using h)]

end Go.Proofs.Ytckofngclgkajaa
