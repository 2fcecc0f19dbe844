/- What awake and fair of layer 4's laws answer; Scan's answers in a form for laws. -/
import Derived.Test.YtebhfcjkaoldmaaLexL
namespace Go.Proofs.Ytebhfcjkaoldmaa
open Go.RowKit

def OkSays (ts : List Tok) (B : Nat) (w : World) (e : Ending) (w' : World) : Prop :=
  (∃ a c, e = .returned (.tuple #[.slice a ts.length c, .int .i64 0, .int .i64 0]) ∧ TokAt w' a ts ∧ ts.length ≤ c) ∧ Below B w w'
theorem scan_ok_at {s : ByteArray} {ts : List Tok} (h : scanB s.data.toList = .inr ts) (w : World) : Calls Try.prog 11 #[.string s] w (OkSays ts w.heap.size w) := by
  refine (scan_any s w).mono ?_
  rintro e w' ⟨h1, h2⟩
  rw [h] at h1
  obtain ⟨v, rfl, h3⟩ := h1
  obtain ⟨a, c, rfl, h4, h5⟩ := tok_own h3
  exact ⟨⟨a, c, rfl, h4, h5⟩, h2⟩
theorem scan_bad_at {s : ByteArray} {p f : Nat} (h : scanB s.data.toList = .inl (p, f)) (w : World) : Calls Try.prog 11 #[.string s] w fun e w' => e = .returned (.tuple #[.slice none 0 0, .int .i64 (p : Int), .int .i64 (f : Int)]) ∧ Below w.heap.size w w' := by
  refine (scan_any s w).mono ?_
  rintro e w' ⟨h1, h2⟩
  rw [h] at h1
  exact ⟨h1, h2⟩
theorem scanR_ok_at {s : ByteArray} {ts : List Tok} (h : scanB s.data.toList = .inr ts) (w : World) : Calls Try.prog 12 #[.string s] w (OkSays ts w.heap.size w) := by
  refine (scanR_any s w).mono ?_
  rintro e w' ⟨h1, h2⟩
  rw [h] at h1
  obtain ⟨v, rfl, h3⟩ := h1
  obtain ⟨a, c, rfl, h4, h5⟩ := tok_own h3
  exact ⟨⟨a, c, rfl, h4, h5⟩, h2⟩
theorem scanR_bad_at {s : ByteArray} {p f : Nat} (h : scanB s.data.toList = .inl (p, f)) (w : World) : Calls Try.prog 12 #[.string s] w fun e w' => e = .returned (.tuple #[.slice none 0 0, .int .i64 (p : Int), .int .i64 (f : Int)]) ∧ Below w.heap.size w w' := by
  refine (scanR_any s w).mono ?_
  rintro e w' ⟨h1, h2⟩
  rw [h] at h1
  exact ⟨h1, h2⟩
/-- the errors of a scan -/
theorem scan_errs {l : Bytes} {p f : Nat} (h : scanB l = .inl (p, f)) : f = 2 ∨ f = 3 ∨ f = 4 ∨ f = 5 := by
  unfold scanB at h
  split at h
  · injection h with h
    injection h with h1 h2
    exact .inr (.inl h2.symm)
  · obtain ⟨ts, r, _, _, h4⟩ := scan_err l.length (Nat.le_refl _) (by omega) h
    rcases h4 with ⟨_, h4⟩ | ⟨_, h4⟩
    · exact .inr (.inl h4)
    · rcases tok_errs h4 with h | h | h <;> simp [h]

def exTs : List Tok := [⟨1, 0, 1, 0⟩, ⟨3, 1, 3, 0⟩, ⟨1, 3, 4, 0⟩, ⟨3, 4, 5, 0⟩, ⟨1, 5, 6, 0⟩, ⟨3, 6, 7, 0⟩, ⟨2, 7, 8, 1⟩]
theorem ex_scan : scanB [100, 58, 61, 113, 46, 100, 43, 49] = .inr exTs := by decide +kernel
set_option maxHeartbeats 1000000 in
theorem awake_any (w : World) : Calls Try.prog 10 #[] w fun e w' => e = .returned (.bool true) ∧ Below w.heap.size w w' := by
  have hsc := fun w0 => scan_ok_at (s := ⟨#[100, 58, 61, 113, 46, 100, 43, 49]⟩) ex_scan w0
  go_enter Try.func10, Try.ntmps10
  go_wp2_with (go_at_call 11; refine (hsc _).mono ?_; rintro e w1 ⟨⟨a, c, rfl, hT, _⟩, hb⟩; obtain ⟨b, rfl, hlt, hc⟩ := hT.row (by decide); have x0 : w1.cell? ⟨b, 4, none⟩ = some (.int .i64 3) := (hc 1 (by decide)).1; have x1 : w1.cell? ⟨b, 6, none⟩ = some (.int .i64 3) := (hc 1 (by decide)).2.2.1; have x2 : w1.cell? ⟨b, 27, none⟩ = some (.int .i64 1) := (hc 6 (by decide)).2.2.2; clear hc)
  go_ret
  exact ⟨rfl, hb⟩

def okF : (Nat × Nat) ⊕ List Tok → Bool
  | .inr _ => true
  | .inl _ => false
def fairF (s : ByteArray) : Bool := decide (s.size ≤ 2000) && okF (scanB s.data.toList)
set_option maxHeartbeats 1000000 in
theorem fair_any (s : ByteArray) (w : World) : Calls Try.prog 18 #[.string s] w fun e w' => e = .returned (.bool (fairF s)) ∧ Below w.heap.size w w' := by
  unfold fairF
  cases h : scanB s.data.toList with
  | inl x =>
    obtain ⟨p, f⟩ := x
    have hsc := fun w0 => scanR_bad_at h w0
    have hf : ((f : Int) == 0) = false := by
      have := scan_errs h
      simp
      omega
    by_cases h2 : s.size ≤ 2000
    all_goals
      go_enter Try.func18, Try.ntmps18
      go_wp2_with (go_at_call 12; refine (hsc _).mono ?_; rintro e w1 ⟨rfl, hb⟩)
      go_ret
      exact ⟨ret_bool (by simp [okF]), hb⟩
  | inr ts =>
    have hsc := fun w0 => scanR_ok_at h w0
    by_cases h2 : s.size ≤ 2000
    all_goals
      go_enter Try.func18, Try.ntmps18
      go_wp2_with (go_at_call 12; refine (hsc _).mono ?_; rintro e w1 ⟨⟨a, c, rfl, hT, _⟩, hb⟩)
      go_ret
      exact ⟨ret_bool (by simp [okF, h2]), hb⟩
theorem fair_true {s : ByteArray} (h : fairF s = true) : s.size ≤ 2000 ∧ ∃ ts, scanB s.data.toList = .inr ts := by
  unfold fairF at h
  cases h2 : scanB s.data.toList with
  | inl x => rw [h2] at h; simp [okF] at h
  | inr ts => exact ⟨by rw [h2] at h; simpa [okF] using h, ts, rfl⟩
end Go.Proofs.Ytebhfcjkaoldmaa
