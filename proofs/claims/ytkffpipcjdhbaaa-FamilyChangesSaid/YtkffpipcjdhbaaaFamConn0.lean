/- What Connect of package family answers: the errors. -/
import Derived.Test.YtkffpipcjdhbaaaFamIdent
import Derived.Test.YtkffpipcjdhbaaaPair
import Derived.Test.YtkffpipcjdhbaaaRefF12
namespace Go.Proofs.Ytkffpipcjdhbaaa
open Go.RowKit

theorem nodesB_eq (n : Nat) (a b : Int) : nodesB n a b = (inP n a b && a != b) := rfl
set_option maxHeartbeats 2000000 in
theorem connPE_any (ia pa : Option Addr) (il ic pl pc : Nat) (G : Gr) (a b wt : Int) (w : World) (hG : GraphAt w ia il pa pl G) (hv : validB G = false) :
    Calls Try.prog 31 #[.agg #[.slice ia il ic, .slice pa pl pc], .int .i64 a, .int .i64 b, .int .i64 wt] w fun e w' => FamOwn w.heap.size (.inl 1) e w' ∧ Below w.heap.size w w' := by
  have HGX := Lib.hid (hG.below (((Below.refl _ _).alloc (Nat.le_refl _) (.cells #[.slice ia il ic, .slice pa pl pc] 26)).alloc (by simp) (.cells #[.slice none 0 0, .slice none 0 0] 26)))
  have HG0 := Lib.hid hG
  have HPG := Lib.hid hG.pl
  have hpm : pl ≤ maxLen := by rw [HPG.out]; exact hG.ports.size
  clear hG
  go_enter Try.func31, Try.ntmps31
  go_wp2_with (go_at_call 51; go_must (refine (valid_any _ _ _ _ _ _ G _ HGX.out).mono ?_; rintro e w1 ⟨rfl, hb1⟩; rw [hv]); have hbx : Below (w.heap.size + 2) ((w.alloc (.cells #[.slice ia il ic, .slice pa pl pc] 26)).alloc (.cells #[.slice none 0 0, .slice none 0 0] 26)) w1 := hb1.mono (by simp); have r0 := boxedB hbx 0; have r1 := boxedB hbx 1; have q0 := free_boxB hbx 0; have q1 := free_boxB hbx 1; obtain ⟨wp, hwp⟩ : ∃ x, x = w1.alloc (.cells #[.int .i64 a, .int .i64 b] 54) := ⟨_, rfl⟩; have hs1 : w.heap.size + 2 ≤ w1.heap.size := (by simpa using hbx.size); have hbp : Below (w.heap.size + 2) ((w.alloc (.cells #[.slice ia il ic, .slice pa pl pc] 26)).alloc (.cells #[.slice none 0 0, .slice none 0 0] 26)) wp := (by rw [hwp]; exact hbx.alloc (by omega) _); have p0 : wp.cell? ⟨w1.heap.size, 0, none⟩ = some (.int .i64 a) := (by rw [hwp]; simp [cell_push0]); have p1 : wp.cell? ⟨w1.heap.size, 1, none⟩ = some (.int .i64 b) := (by rw [hwp]; simp [cell_push0]); have lp : w1.heap.size < wp.heap.size := cell_lt p0; have P0 := Lib.hid p0; have P1 := Lib.hid p1; have HP1 := Lib.hid hwp; have gx0 := boxedA hbp 0; have gx1 := boxedA hbp 1; rw [hwp] at p0 p1 gx0 gx1; clear hwp)
  refine bodyPost_ret (v := .tuple #[.agg #[.slice none 0 0, .slice none 0 0], .int .i64 1]) (by rw [results_c1 (fn := Try.f31) rfl]; go_simp) rfl ?_
  exact idE_err 1 hbx
set_option maxHeartbeats 2000000 in
theorem connPF_any (ia pa : Option Addr) (il ic pl pc : Nat) (G : Gr) (a b wt : Int) (w : World) (hG : GraphAt w ia il pa pl G) (hv : validB G = true) (h : inP pl a b = false ∨ (inP pl a b = true ∧ a = b)) :
    Calls Try.prog 31 #[.agg #[.slice ia il ic, .slice pa pl pc], .int .i64 a, .int .i64 b, .int .i64 wt] w fun e w' => FamOwn w.heap.size (.inl 2) e w' ∧ Below w.heap.size w w' := by
  have HGX := Lib.hid (hG.below (((Below.refl _ _).alloc (Nat.le_refl _) (.cells #[.slice ia il ic, .slice pa pl pc] 26)).alloc (by simp) (.cells #[.slice none 0 0, .slice none 0 0] 26)))
  have HG0 := Lib.hid hG
  have HPG := Lib.hid hG.pl
  have hpm : pl ≤ maxLen := by rw [HPG.out]; exact hG.ports.size
  clear hG
  rcases h with hin | ⟨hin, hab⟩
  case' inr => (have hab2 : (a == b) = true := (by simp [hab]); clear hab)
  all_goals
    go_enter Try.func31, Try.ntmps31
    go_wp2_with (first | (go_at_call 51; go_must (refine (valid_any _ _ _ _ _ _ G _ HGX.out).mono ?_; rintro e w1 ⟨rfl, hb1⟩; rw [hv]); have hbx : Below (w.heap.size + 2) ((w.alloc (.cells #[.slice ia il ic, .slice pa pl pc] 26)).alloc (.cells #[.slice none 0 0, .slice none 0 0] 26)) w1 := hb1.mono (by simp); have r0 := boxedB hbx 0; have r1 := boxedB hbx 1; have q0 := free_boxB hbx 0; have q1 := free_boxB hbx 1; obtain ⟨wp, hwp⟩ : ∃ x, x = w1.alloc (.cells #[.int .i64 a, .int .i64 b] 54) := ⟨_, rfl⟩; have hs1 : w.heap.size + 2 ≤ w1.heap.size := (by simpa using hbx.size); have hbp : Below (w.heap.size + 2) ((w.alloc (.cells #[.slice ia il ic, .slice pa pl pc] 26)).alloc (.cells #[.slice none 0 0, .slice none 0 0] 26)) wp := (by rw [hwp]; exact hbx.alloc (by omega) _); have p0 : wp.cell? ⟨w1.heap.size, 0, none⟩ = some (.int .i64 a) := (by rw [hwp]; simp [cell_push0]); have p1 : wp.cell? ⟨w1.heap.size, 1, none⟩ = some (.int .i64 b) := (by rw [hwp]; simp [cell_push0]); have lp : w1.heap.size < wp.heap.size := cell_lt p0; have P0 := Lib.hid p0; have P1 := Lib.hid p1; have HP1 := Lib.hid hwp; have gx0 := boxedA hbp 0; have gx1 := boxedA hbp 1; rw [hwp] at p0 p1 gx0 gx1; clear hwp) | (go_at_call 56; rw [← HP1.out]; go_must (refine (pairIn_any _ _ _ _ _ _ a b _ hpm).mono ?_; rintro e w2 ⟨rfl, hb2⟩; rw [hin]); have hb2x : Below (w.heap.size + 2) ((w.alloc (.cells #[.slice ia il ic, .slice pa pl pc] 26)).alloc (.cells #[.slice none 0 0, .slice none 0 0] 26)) w2 := hbp.trans (hb2.mono (by simpa using hbp.size)); have gx0 := boxedA hb2x 0; have gx1 := boxedA hb2x 1; have r0 := boxedB hb2x 0; have r1 := boxedB hb2x 1; have q0 := free_boxB hb2x 0; have q1 := free_boxB hb2x 1; have p0 := (hb2.cell (p := ⟨w1.heap.size, 0, none⟩) lp).trans P0.out; have p1 := (hb2.cell (p := ⟨w1.heap.size, 1, none⟩) lp).trans P1.out; have lp2 := cell_lt p0))
    refine bodyPost_ret (v := .tuple #[.agg #[.slice none 0 0, .slice none 0 0], .int .i64 2]) (by rw [results_c1 (fn := Try.f31) rfl]; go_simp) rfl ?_
    exact idE_err 2 hb2x
set_option maxHeartbeats 2000000 in
theorem connPH_any (ia pa : Option Addr) (il ic pl pc : Nat) (G : Gr) (A B : Nat) (wt : Int) (w : World) (hG : GraphAt w ia il pa pl G) (hv : validB G = true) (hA : A < pl) (hB : B < pl) (hne : A ≠ B)
    (h : decide (portF (rowA G.ps A) B < 0) = false ∨ (decide (portF (rowA G.ps A) B < 0) = true ∧ wt < 1) ∨ (decide (portF (rowA G.ps A) B < 0) = true ∧ 15 < wt)) :
    Calls Try.prog 31 #[.agg #[.slice ia il ic, .slice pa pl pc], .int .i64 A, .int .i64 B, .int .i64 wt] w fun e w' => FamOwn w.heap.size (.inl 2) e w' ∧ Below w.heap.size w w' := by
  have HGX := Lib.hid (hG.below (((Below.refl _ _).alloc (Nat.le_refl _) (.cells #[.slice ia il ic, .slice pa pl pc] 26)).alloc (by simp) (.cells #[.slice none 0 0, .slice none 0 0] 26)))
  have HG0 := Lib.hid hG
  have HPG := Lib.hid hG.pl
  have hpm : pl ≤ maxLen := by rw [HPG.out]; exact hG.ports.size
  clear hG
  have HV := Lib.hid (validB_iff.1 hv)
  have hin : inP pl A B = true := by unfold inP; rw [inB_mk ⟨by omega, by omega⟩, inB_mk ⟨by omega, by omega⟩]; rfl
  have hab : ((A : Int) == B) = false := by simp; omega
  rcases h with hlk | ⟨hlk, hw⟩ | ⟨hlk, hw⟩
  case' inr.inr => have hw2 : ¬ wt < 1 := by omega
  all_goals
    go_enter Try.func31, Try.ntmps31
    go_wp2_with (first | (go_at_call 51; go_must (refine (valid_any _ _ _ _ _ _ G _ HGX.out).mono ?_; rintro e w1 ⟨rfl, hb1⟩; rw [hv]); have hbx : Below (w.heap.size + 2) ((w.alloc (.cells #[.slice ia il ic, .slice pa pl pc] 26)).alloc (.cells #[.slice none 0 0, .slice none 0 0] 26)) w1 := hb1.mono (by simp); have r0 := boxedB hbx 0; have r1 := boxedB hbx 1; have q0 := free_boxB hbx 0; have q1 := free_boxB hbx 1; obtain ⟨wp, hwp⟩ : ∃ x, x = w1.alloc (.cells #[.int .i64 A, .int .i64 B] 54) := ⟨_, rfl⟩; have hs1 : w.heap.size + 2 ≤ w1.heap.size := (by simpa using hbx.size); have hbp : Below (w.heap.size + 2) ((w.alloc (.cells #[.slice ia il ic, .slice pa pl pc] 26)).alloc (.cells #[.slice none 0 0, .slice none 0 0] 26)) wp := (by rw [hwp]; exact hbx.alloc (by omega) _); have p0 : wp.cell? ⟨w1.heap.size, 0, none⟩ = some (.int .i64 A) := (by rw [hwp]; simp [cell_push0]); have p1 : wp.cell? ⟨w1.heap.size, 1, none⟩ = some (.int .i64 B) := (by rw [hwp]; simp [cell_push0]); have lp : w1.heap.size < wp.heap.size := cell_lt p0; have P0 := Lib.hid p0; have P1 := Lib.hid p1; have HP1 := Lib.hid hwp; have gx0 := boxedA hbp 0; have gx1 := boxedA hbp 1; rw [hwp] at p0 p1 gx0 gx1; clear hwp) | (go_at_call 56; rw [← HP1.out]; go_must (refine (pairIn_any _ _ _ _ _ _ A B _ hpm).mono ?_; rintro e w2 ⟨rfl, hb2⟩; rw [hin]); have hb2x : Below (w.heap.size + 2) ((w.alloc (.cells #[.slice ia il ic, .slice pa pl pc] 26)).alloc (.cells #[.slice none 0 0, .slice none 0 0] 26)) w2 := hbp.trans (hb2.mono (by simpa using hbp.size)); have gx0 := boxedA hb2x 0; have gx1 := boxedA hb2x 1; have r0 := boxedB hb2x 0; have r1 := boxedB hb2x 1; have q0 := free_boxB hb2x 0; have q1 := free_boxB hb2x 1; have p0 := (hb2.cell (p := ⟨w1.heap.size, 0, none⟩) lp).trans P0.out; have p1 := (hb2.cell (p := ⟨w1.heap.size, 1, none⟩) lp).trans P1.out; have lp2 := cell_lt p0) | (go_at_call 57; go_must (refine (pairLinked_any _ _ _ _ _ _ G A B _ (HG0.out.below ((belBox2 hb2x))) HV.out hA hB).mono ?_; rintro e w3 ⟨rfl, hb3⟩; rw [hlk]); have hb3x : Below (w.heap.size + 2) ((w.alloc (.cells #[.slice ia il ic, .slice pa pl pc] 26)).alloc (.cells #[.slice none 0 0, .slice none 0 0] 26)) w3 := hb2x.trans (hb3.mono (by simpa using hb2x.size)); have gx0 := boxedA hb3x 0; have gx1 := boxedA hb3x 1; have r0 := boxedB hb3x 0; have r1 := boxedB hb3x 1; have q0 := free_boxB hb3x 0; have q1 := free_boxB hb3x 1; have p0 := (hb3.cell (p := ⟨w1.heap.size, 0, none⟩) lp2).trans p0; have p1 := (hb3.cell (p := ⟨w1.heap.size, 1, none⟩) (cell_lt p1)).trans p1))
    refine bodyPost_ret (v := .tuple #[.agg #[.slice none 0 0, .slice none 0 0], .int .i64 2]) (by rw [results_c1 (fn := Try.f31) rfl]; go_simp) rfl ?_
    exact idE_err 2 hb3x
end Go.Proofs.Ytkffpipcjdhbaaa
