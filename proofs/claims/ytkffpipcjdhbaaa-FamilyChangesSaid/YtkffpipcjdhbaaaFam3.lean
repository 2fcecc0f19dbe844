/- What Path, Star, Complete, Grid and FromParents of package family answer. -/
import Derived.Test.YtkffpipcjdhbaaaFam2
namespace Go.Proofs.Ytkffpipcjdhbaaa
open Go.RowKit

theorem free_box {w w' : World} {C : Array Value} {t : TypeId} (h : Below (w.heap.size + 1) (w.alloc (.cells C t)) w') (i : Nat) : w'.frozen? ⟨w.heap.size, i, none⟩ = false :=
  (h.frozen (p := ⟨w.heap.size, i, none⟩) (by simp)).trans (by simp [free_push0])
/-- the result's struct, a box that is older than the graph, is stored -/
theorem own_box {w w1 : World} {o : Int ⊕ Gr} {C : Array Value} {t : TypeId} {a1 a2 : Option Addr} {l1 c1 l2 c2 : Nat} {k : Int} {u0 u1 : Value} (hO : OwnG (w.heap.size + 1) o (.slice a1 l1 c1) (.slice a2 l2 c2) k w1) (hb : Below (w.heap.size + 1) (w.alloc (.cells C t)) w1) :
    FamOwn w.heap.size o (famRet (.slice a1 l1 c1) (.slice a2 l2 c2) k) ((w1.setCell ⟨w.heap.size, 0, none⟩ u0).setCell ⟨w.heap.size, 1, none⟩ u1) ∧ Below w.heap.size w ((w1.setCell ⟨w.heap.size, 0, none⟩ u0).setCell ⟨w.heap.size, 1, none⟩ u1) :=
  ⟨⟨_, _, _, _, _, _, _, rfl, (hO.far ((grown_set w1 w.heap.size 0 u0).trans (grown_set _ w.heap.size 1 u1)) (by omega)).mono (by omega)⟩, ((belBox hb).setCell (Nat.le_refl _) _).setCell (Nat.le_refl _) _⟩

set_option maxHeartbeats 2000000 in
theorem pathP_any (n : Int) (w : World) :
    Calls Try.prog 14 #[.int .i64 n] w fun e w' => FamOwn w.heap.size (relO pathN n) e w' ∧ Below w.heap.size w w' := by
  have hrel : ∀ w' : World, _ := fun w' => related_any n 45 #[] pathN w' (fun hn => ⟨enters_of Try.func45 (by kernel_rfl) rfl, fun w'' a b _ hab hb => by simpa using pathC_any a b hab (by have := inB_true hn; omega) w''⟩)
  go_enter Try.func14, Try.ntmps14
  go_wp2_with (go_at_call 40; refine (hrel _).mono ?_; rintro e w1 ⟨⟨a1, l1, c1, a2, l2, c2, k, rfl, hO⟩, hb1⟩; unfold famRet; have hbx : Below (w.heap.size + 1) (w.alloc (.cells #[.slice none 0 0, .slice none 0 0] 26)) w1 := hb1.mono (by simp); have r0 : w1.cell? ⟨w.heap.size, 0, none⟩ = some (.slice none 0 0) := boxed hbx 0; have r1 : w1.cell? ⟨w.heap.size, 1, none⟩ = some (.slice none 0 0) := boxed hbx 1; have q0 : w1.frozen? ⟨w.heap.size, 0, none⟩ = false := free_box hbx 0; have q1 : w1.frozen? ⟨w.heap.size, 1, none⟩ = false := free_box hbx 1; have HO := Lib.hid hO; clear hO hb1)
  refine bodyPost_ret (v := .tuple #[.agg #[.slice a1 l1 c1, .slice a2 l2 c2], .int .i64 k]) (by rw [results_c1 (fn := Try.f14) rfl]; go_simp) rfl ?_
  exact own_box (by simpa using HO.out) hbx

set_option maxHeartbeats 2000000 in
theorem starP_any (n : Int) (w : World) :
    Calls Try.prog 16 #[.int .i64 n] w fun e w' => FamOwn w.heap.size (relO starN n) e w' ∧ Below w.heap.size w w' := by
  have hrel : ∀ w' : World, _ := fun w' => related_any n 46 #[] starN w' (fun hn => ⟨enters_of Try.func46 (by kernel_rfl) rfl, fun w'' a b _ hab hb => by simpa using starC_any a b w''⟩)
  go_enter Try.func16, Try.ntmps16
  go_wp2_with (go_at_call 40; refine (hrel _).mono ?_; rintro e w1 ⟨⟨a1, l1, c1, a2, l2, c2, k, rfl, hO⟩, hb1⟩; unfold famRet; have hbx : Below (w.heap.size + 1) (w.alloc (.cells #[.slice none 0 0, .slice none 0 0] 26)) w1 := hb1.mono (by simp); have r0 : w1.cell? ⟨w.heap.size, 0, none⟩ = some (.slice none 0 0) := boxed hbx 0; have r1 : w1.cell? ⟨w.heap.size, 1, none⟩ = some (.slice none 0 0) := boxed hbx 1; have q0 : w1.frozen? ⟨w.heap.size, 0, none⟩ = false := free_box hbx 0; have q1 : w1.frozen? ⟨w.heap.size, 1, none⟩ = false := free_box hbx 1; have HO := Lib.hid hO; clear hO hb1)
  refine bodyPost_ret (v := .tuple #[.agg #[.slice a1 l1 c1, .slice a2 l2 c2], .int .i64 k]) (by rw [results_c1 (fn := Try.f16) rfl]; go_simp) rfl ?_
  exact own_box (by simpa using HO.out) hbx

set_option maxHeartbeats 2000000 in
theorem complP_any (n : Int) (w : World) :
    Calls Try.prog 18 #[.int .i64 n] w fun e w' => FamOwn w.heap.size (relO complN n) e w' ∧ Below w.heap.size w w' := by
  have hrel : ∀ w' : World, _ := fun w' => related_any n 47 #[] complN w' (fun hn => ⟨enters_of Try.func47 (by kernel_rfl) rfl, fun w'' a b _ hab hb => by simpa using complC_any a b w''⟩)
  go_enter Try.func18, Try.ntmps18
  go_wp2_with (go_at_call 40; refine (hrel _).mono ?_; rintro e w1 ⟨⟨a1, l1, c1, a2, l2, c2, k, rfl, hO⟩, hb1⟩; unfold famRet; have hbx : Below (w.heap.size + 1) (w.alloc (.cells #[.slice none 0 0, .slice none 0 0] 26)) w1 := hb1.mono (by simp); have r0 : w1.cell? ⟨w.heap.size, 0, none⟩ = some (.slice none 0 0) := boxed hbx 0; have r1 : w1.cell? ⟨w.heap.size, 1, none⟩ = some (.slice none 0 0) := boxed hbx 1; have q0 : w1.frozen? ⟨w.heap.size, 0, none⟩ = false := free_box hbx 0; have q1 : w1.frozen? ⟨w.heap.size, 1, none⟩ = false := free_box hbx 1; have HO := Lib.hid hO; clear hO hb1)
  refine bodyPost_ret (v := .tuple #[.agg #[.slice a1 l1 c1, .slice a2 l2 c2], .int .i64 k]) (by rw [results_c1 (fn := Try.f18) rfl]; go_simp) rfl ?_
  exact own_box (by simpa using HO.out) hbx
end Go.Proofs.Ytkffpipcjdhbaaa
