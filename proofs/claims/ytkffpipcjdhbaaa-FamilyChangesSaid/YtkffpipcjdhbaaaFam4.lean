/- What Grid and FromParents of package family answer. -/
import Derived.Test.YtkffpipcjdhbaaaFam3
namespace Go.Proofs.Ytkffpipcjdhbaaa
open Go.RowKit

theorem free_boxB {w w' : World} {C D : Array Value} {t u : TypeId} (h : Below (w.heap.size + 2) ((w.alloc (.cells C t)).alloc (.cells D u)) w') (i : Nat) : w'.frozen? ⟨w.heap.size + 1, i, none⟩ = false :=
  (h.frozen (p := ⟨w.heap.size + 1, i, none⟩) (by simp)).trans (by simp [free_push0])
theorem own_box2 {w w1 : World} {o : Int ⊕ Gr} {C D : Array Value} {t u : TypeId} {a1 a2 : Option Addr} {l1 c1 l2 c2 : Nat} {k : Int} {u0 u1 : Value} (hO : OwnG (w.heap.size + 2) o (.slice a1 l1 c1) (.slice a2 l2 c2) k w1) (hb : Below (w.heap.size + 2) ((w.alloc (.cells C t)).alloc (.cells D u)) w1) :
    FamOwn w.heap.size o (famRet (.slice a1 l1 c1) (.slice a2 l2 c2) k) ((w1.setCell ⟨w.heap.size + 1, 0, none⟩ u0).setCell ⟨w.heap.size + 1, 1, none⟩ u1) ∧ Below w.heap.size w ((w1.setCell ⟨w.heap.size + 1, 0, none⟩ u0).setCell ⟨w.heap.size + 1, 1, none⟩ u1) :=
  ⟨⟨_, _, _, _, _, _, _, rfl, (hO.far ((grown_set w1 (w.heap.size + 1) 0 u0).trans (grown_set _ (w.heap.size + 1) 1 u1)) (by omega)).mono (by omega)⟩, ((belBox2 hb).setCell (Nat.le_succ _) _).setCell (Nat.le_succ _) _⟩

def gridPO (wd ht : Int) : Int ⊕ Gr := if inB wd 1 24 ∧ inB ht 1 24 then relO (gridN wd.toNat) (wd * ht) else .inl 2
set_option maxHeartbeats 2000000 in
theorem gridPE_any (wd ht : Int) (w : World) (h : inB wd 1 24 = false ∨ (inB wd 1 24 = true ∧ inB ht 1 24 = false)) :
    Calls Try.prog 20 #[.int .i64 wd, .int .i64 ht] w fun e w' => FamOwn w.heap.size (gridPO wd ht) e w' ∧ Below w.heap.size w w' := by
  have ho : Hid (gridPO wd ht = .inl 2) := Lib.hid (by unfold gridPO; rcases h with h | h <;> simp [h])
  have hs1 := fsize_any wd
  have hs2 := fsize_any ht
  rcases h with h | ⟨h, h2⟩
  all_goals
    go_enter Try.func20, Try.ntmps20
    go_wp2_with (go_at_call 48; (first | (refine (hs1 _).mono ?_) | (refine (hs2 _).mono ?_)); rintro e w1 ⟨rfl, rfl⟩)
    refine bodyPost_ret (v := .tuple #[.agg #[.slice none 0 0, .slice none 0 0], .int .i64 2]) (by rw [results_c1 (fn := Try.f20) rfl]; go_simp) rfl ?_
    rw [ho.out]
    exact ⟨noFam 2 _, ((Below.refl _ _).alloc (Nat.le_refl _) _).alloc (by simp) _⟩
set_option maxHeartbeats 2000000 in
theorem gridP_ok (wd ht : Nat) (w : World) (h1 : 1 ≤ wd) (h2 : wd ≤ 24) (h3 : 1 ≤ ht) (h4 : ht ≤ 24) :
    Calls Try.prog 20 #[.int .i64 wd, .int .i64 ht] w fun e w' => FamOwn w.heap.size (relO (gridN wd) ((wd * ht : Nat) : Int)) e w' ∧ Below w.heap.size w w' := by
  have hb1 : inB wd 1 24 = true := inB_mk ⟨by omega, by omega⟩
  have hb2 : inB ht 1 24 = true := inB_mk ⟨by omega, by omega⟩
  have hs1 := fsize_any wd
  have hs2 := fsize_any ht
  have hm1 : wd * ht ≤ 24 * 24 := Nat.mul_le_mul h2 h4
  have hme : (wd : Int) * (ht : Int) = ((wd * ht : Nat) : Int) := by simp
  have hrel : ∀ w' : World, w'.cell? ⟨w.heap.size, 0, none⟩ = some (.int .i64 wd) → w.heap.size < w'.heap.size → _ := fun w' hc hlt => related_any ((wd * ht : Nat) : Int) 49 #[.pointer (some ⟨w.heap.size, 0, none⟩)] (gridN wd) w' (fun hn => ⟨enters_of Try.func49 (by kernel_rfl) rfl, fun w'' a b hbw hab hb => by
    have := inB_true hn
    simpa using gridC_any wd a b (by omega) h2 hab (by omega) w.heap.size w'' ((hbw.cell (p := ⟨w.heap.size, 0, none⟩) hlt).trans hc)⟩)
  generalize wd * ht = m at hm1 hme hrel
  go_enter Try.func20, Try.ntmps20
  have Hme := Lib.hid hme
  clear hme
  go_wp2_with (first | (go_at_call 48; (first | (refine (hs1 _).mono ?_) | (refine (hs2 _).mono ?_)); rintro e w1 ⟨rfl, rfl⟩) | (go_at_call 40; rw [Hme.out]; rw [Go.IntWalk.wrap64_in (m : Int) ⟨by omega, by omega⟩]; refine (hrel _ (by simp [cell_push0]) (by simp; omega)).mono ?_; rintro e w1 ⟨⟨a1, l1, c1, a2, l2, c2, k, rfl, hO⟩, hb3⟩; unfold famRet; have hbx : Below (w.heap.size + 2) ((w.alloc (.cells #[.int .i64 wd] 3)).alloc (.cells #[.slice none 0 0, .slice none 0 0] 26)) w1 := hb3.mono (by simp); have r0 : w1.cell? ⟨w.heap.size + 1, 0, none⟩ = some (.slice none 0 0) := boxedB hbx 0; have r1 : w1.cell? ⟨w.heap.size + 1, 1, none⟩ = some (.slice none 0 0) := boxedB hbx 1; have q0 : w1.frozen? ⟨w.heap.size + 1, 0, none⟩ = false := free_boxB hbx 0; have q1 : w1.frozen? ⟨w.heap.size + 1, 1, none⟩ = false := free_boxB hbx 1; have HO := Lib.hid hO; clear hO hb3))
  refine bodyPost_ret (v := .tuple #[.agg #[.slice a1 l1 c1, .slice a2 l2 c2], .int .i64 k]) (by rw [results_c1 (fn := Try.f20) rfl]; go_simp) rfl ?_
  exact own_box2 (by simpa using HO.out) hbx
theorem gridP_any (wd ht : Int) (w : World) :
    Calls Try.prog 20 #[.int .i64 wd, .int .i64 ht] w fun e w' => FamOwn w.heap.size (gridPO wd ht) e w' ∧ Below w.heap.size w w' := by
  cases h1 : inB wd 1 24 with
  | false => exact gridPE_any wd ht w (.inl h1)
  | true =>
    cases h2 : inB ht 1 24 with
    | false => exact gridPE_any wd ht w (.inr ⟨h1, h2⟩)
    | true =>
      have a := inB_true h1
      have b := inB_true h2
      obtain ⟨x, rfl⟩ : ∃ x : Nat, wd = x := ⟨wd.toNat, by omega⟩
      obtain ⟨y, rfl⟩ : ∃ y : Nat, ht = y := ⟨ht.toNat, by omega⟩
      have := gridP_ok x y w (by omega) (by omega) (by omega) (by omega)
      unfold gridPO
      rw [if_pos ⟨h1, h2⟩]
      simpa using this

/-! ### FromParents -/
def parPok (zs : List Int) : Prop := 0 < zs.length ∧ idA zs 0 = -1 ∧ ∀ v, 1 ≤ v → v < zs.length → 0 ≤ idA zs v ∧ idA zs v < v
noncomputable def parPO (zs : List Int) : Int ⊕ Gr := open Classical in if parPok zs then relO (parN zs) zs.length else .inl 2
set_option maxHeartbeats 2000000 in
theorem parPE_any (a : Option Addr) (c : Nat) (zs : List Int) (w : World) (hz : IntsAt w a zs) (hn : zs.length = 0 ∨ (0 < zs.length ∧ idA zs 0 ≠ -1)) :
    Calls Try.prog 22 #[.slice a zs.length c] w fun e w' => FamOwn w.heap.size (parPO zs) e w' ∧ Below w.heap.size w w' := by
  have hsz := hz.size
  unfold maxLen at hsz
  have ho : Hid (parPO zs = .inl 2) := Lib.hid (by
    unfold parPO
    rw [if_neg]
    intro ⟨h1, h2, _⟩
    rcases hn with h | h
    · omega
    · exact h.2 h2)
  obtain ⟨n, hnl⟩ : ∃ n, n = zs.length := ⟨_, rfl⟩
  rw [← hnl] at hn hsz ⊢
  rcases hn with hn | ⟨hn, hn2⟩
  · subst hn
    clear hnl hz
    go_enter Try.func22, Try.ntmps22
    go_wp2
    refine bodyPost_ret (v := .tuple #[.agg #[.slice none 0 0, .slice none 0 0], .int .i64 2]) (by rw [results_c1 (fn := Try.f22) rfl]; go_simp) rfl ?_
    rw [ho.out]
    exact ⟨noFam 2 _, ((Below.refl _ _).alloc (Nat.le_refl _) _).alloc (by simp) _⟩
  · obtain ⟨b, o, rfl, hb, hc⟩ := hz.row (by omega)
    have hc0 := hc 0 (by omega)
    rw [Nat.add_zero] at hc0
    have hcw := ((((Below.refl w.heap.size w).alloc (Nat.le_refl _) (.cells #[.slice (some ⟨b, o, none⟩) n c] 22)).alloc (by simp) (.cells #[.slice none 0 0, .slice none 0 0] 26)).cell (p := ⟨b, o, none⟩) hb).trans hc0
    have hq : (idA zs 0 != -1) = true := by simp [hn2]
    have hq0 : ((n : Int) == 0) = false := by simp; omega
    clear hc hnl hc0 hz
    go_enter Try.func22, Try.ntmps22
    go_wp2
    refine bodyPost_ret (v := .tuple #[.agg #[.slice none 0 0, .slice none 0 0], .int .i64 2]) (by rw [results_c1 (fn := Try.f22) rfl]; go_simp) rfl ?_
    rw [ho.out]
    exact ⟨noFam 2 _, ((Below.refl _ _).alloc (Nat.le_refl _) _).alloc (by simp) _⟩
end Go.Proofs.Ytkffpipcjdhbaaa
