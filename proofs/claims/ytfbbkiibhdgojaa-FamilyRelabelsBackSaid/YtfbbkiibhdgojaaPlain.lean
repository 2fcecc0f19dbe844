/- What plain of the specification of layer 3 answers. -/
import Derived.Test.YtfbbkiibhdgojaaMade
namespace Go.Proofs.Ytfbbkiibhdgojaa
open Go.RowKit

/-- the numbers from 0 to n - 1; n rows without links -/
def upTo (n : Nat) : List Int := (List.range n).map fun (k : Nat) => (k : Int)
def bare (n : Nat) : List (Value × List (Int × Int)) := List.replicate n (.slice none 0 0, [])
theorem upTo_len (n : Nat) : (upTo n).length = n := by simp [upTo]
theorem upTo_succ (n : Nat) : upTo (n + 1) = upTo n ++ [(n : Int)] := by simp [upTo, List.range_succ]
theorem bare_len (n : Nat) : (bare n).length = n := by simp [bare]
theorem bare_fst (n : Nat) : (bare n).map Prod.fst = List.replicate n (.slice none 0 0) := by simp [bare]
theorem bare_rows {B : Nat} {w : World} {v1 v2 : Value} {zs : List Int} {hs : List Value} (n : Nat) (h : Apart B w [idsR v1 zs, hdrR v2 hs]) : Apart B w (idsR v1 zs :: hdrR v2 hs :: (bare n).map lnkR) := by
  have hb : ∀ r ∈ (bare n).map lnkR, r = lnkR (.slice none 0 0, []) := fun r hr => by
    obtain ⟨u, hu, rfl⟩ := List.mem_map.1 hr
    rw [(List.mem_replicate.1 hu).2]
  have hnil : (lnkR (.slice none 0 0, [])).v.ownBlock = none := rfl
  obtain ⟨h1, h2⟩ := h
  refine ⟨fun r hr => ?_, ?_⟩
  · rcases List.mem_cons.1 hr with rfl | hr
    · exact h1 _ (by simp)
    · rcases List.mem_cons.1 hr with rfl | hr
      · exact h1 _ (by simp)
      · rw [hb r hr]
        exact World.ownsRow_nil _ _ _ _
  · rw [List.pairwise_cons] at h2 ⊢
    refine ⟨fun r hr => ?_, ?_⟩
    · rcases List.mem_cons.1 hr with rfl | hr
      · exact h2.1 _ (by simp)
      · rw [hb r hr]
        exact (show apartV _ _ from .inl hnil).symm
    · rw [List.pairwise_cons]
      refine ⟨fun r hr => ?_, ?_⟩
      · rw [hb r hr]
        exact (show apartV _ _ from .inl hnil).symm
      · exact List.pairwise_of_forall_mem_list fun a ha b _ => by rw [hb a ha]; exact .inl hnil

set_option maxHeartbeats 2000000 in
theorem plain_any (n : Nat) (hn : n ≤ 1000) (w : World) :
    Calls Try.prog 21 #[.int .i64 n] w fun e w' => (∃ a1 c1 a2 c2, e = .returned (.agg #[.slice a1 n c1, .slice a2 n c2]) ∧ Apart w.heap.size w' (idsR (.slice a1 n c1) (upTo n) :: hdrR (.slice a2 n c2) ((bare n).map Prod.fst) :: (bare n).map lnkR)) ∧ Below w.heap.size w w' := by
  obtain ⟨i0, hi, hz0, hz1, hz2⟩ := info_parts info3
  obtain ⟨j0, hj, hy0, hy1, hy2⟩ := info_parts infoHdr
  go_enter Try.func21, Try.ntmps21
  go_wp2_with (at_make; refine wpList_make_full _ rfl (.tmp 5) (.tmp 5) 23 rfl (w.heap.size + 1) 38 j0 (.slice none 0 0) 1 Try.underlying23 hj hy0 hy1 .i64 .i64 _ _ n rfl rfl rfl rfl (by rw [hy2]; omega) (by unfold maxLen; omega) (by simp) ?_; intro w1 hown hgrow)
  obtain ⟨W, hW⟩ : ∃ W, W = w.alloc (.cells #[.slice none 0 0, .slice none 0 0] 25) := ⟨_, rfl⟩
  rw [← hW] at hown hgrow
  have hWs : W.heap.size = w.heap.size + 1 := by rw [hW]; simp
  have hM0 : Made W w1.heap.size (w1.alloc (.cells #[.slice none 0 0, .slice (some ⟨w.heap.size + 1, 0, none⟩) n n] 25)) (.slice none 0 0) (.slice (some ⟨w.heap.size + 1, 0, none⟩) n n) (.slice none 0 0) (upTo 0) (.slice (some ⟨w.heap.size + 1, 0, none⟩) n n) ((bare n).map Prod.fst) (bare n) := by
    refine Made.box (bare_rows n ⟨fun r hr => ?_, ?_⟩) ⟨hgrow.os, hgrow.tape, hgrow.output, hgrow.size, fun k hk => hgrow.block k hk (by simp)⟩
    · rcases List.mem_cons.1 hr with rfl | hr
      · exact World.ownsRow_nil _ _ _ _
      · obtain rfl : r = _ := by simpa using hr
        unfold Rw.Held hdrR
        rw [bare_fst]
        simp only [List.length_replicate]
        rw [show (Value.slice none 0 0).cells = #[.slice none 0 0] from rfl, toList_madeCells_one, Nat.mul_one, hWs] at hown
        rw [hWs]
        exact hown
    · simp [idsR, apartV, Value.ownBlock]
  have hs1 := hgrow.size
  rw [hWs] at hs1
  clear hown hgrow
  have HM0 := Lib.hid hM0
  have HW := Lib.hid hW
  clear hM0 hW
  obtain ⟨gb, hgb⟩ : ∃ gb, gb = w1.heap.size := ⟨_, rfl⟩
  obtain ⟨a2, hv2⟩ : ∃ a2, a2 = some (⟨w.heap.size + 1, 0, none⟩ : Addr) := ⟨_, rfl⟩
  rw [← hgb, ← hv2] at HM0
  rw [← hgb] at hs1
  rw [← hgb, ← hv2]
  clear hgb hv2
  go_loopw [4] (fun t wr => ∃ (k : Nat) (v1 : Value), t = .int .i64 k ∧ k ≤ n ∧ Made W gb wr v1 (.slice a2 n n) v1 (upTo k) (.slice a2 n n) ((bare n).map Prod.fst) (bare n)) (fun t _ => n - (intOf t).toNat)
  case atStart => exact ⟨0, _, rfl, Nat.zero_le _, HM0.out⟩
  case round =>
    obtain ⟨k, v1, rfl, hk, hM⟩ := hrel
    have c0 := hM.c0
    have c1 := hM.c1
    have f0 := hM.f0
    have hsz := hM.fr.size
    by_cases hlt : k < n
    · have hown := hM.ids
      rw [upTo_len] at hown
      obtain ⟨a1, q1, rfl, m1, _⟩ := own_slice hown
      have HM := Lib.hid hM
      clear hM
      go_wp2_with (at_builtin; refine wpList_append_lies _ rfl (.tmp 14) (.tmp 16) 22 rfl W.heap.size 3 i0 (.int .i64 0) 1 8 Try.underlying22 hi hz0 hz1 hz2 rfl (by decide) (.slice a1 k q1) k (intsV (upTo k)) rfl (hown.alloc _) ⟨wr.heap.size, 0, none⟩ 1 1 [.int .i64 k] rfl rfl (new_cells _ _ _) (fun x hx => by simp at hx; subst hx; rfl) (by decide) (by unfold maxLen; omega) (by omega) (by simp; omega) _ rfl ?_; intro g cap w2 hown2 hgrow2 hat2 hlt2; have hM2 := (HM.out.alloc (.cells #[.int .i64 (k : Int)] 3)).app1 (by rw [upTo_len]) hown2 hgrow2 hat2; rw [← upTo_succ] at hM2; have e0 := hM2.c0; have e1 := hM2.f0; have HM2 := Lib.hid hM2; clear hM2 hown2 hgrow2 hat2)
      go_roundw
      case rel => exact ⟨k + 1, _, by go_num, hlt, HM2.out.put0 _⟩
      case measure => simp [intOf]; omega
    · obtain rfl : k = n := by omega
      have far : ∀ i, wr.cell? ⟨w.heap.size, i, none⟩ = W.cell? ⟨w.heap.size, i, none⟩ := fun i => hM.fr.cell (p := ⟨w.heap.size, i, none⟩) (by simp; omega)
      have farf : ∀ i, wr.frozen? ⟨w.heap.size, i, none⟩ = W.frozen? ⟨w.heap.size, i, none⟩ := fun i => hM.fr.frozen (p := ⟨w.heap.size, i, none⟩) (by simp; omega)
      have r0 : wr.cell? ⟨w.heap.size, 0, none⟩ = some (.slice none 0 0) := by rw [far, HW.out]; simp [cell_push0]
      have r1 : wr.cell? ⟨w.heap.size, 1, none⟩ = some (.slice none 0 0) := by rw [far, HW.out]; simp [cell_push0]
      have q4 : wr.frozen? ⟨w.heap.size, 0, none⟩ = false := by rw [farf, HW.out]; simp [free_push0]
      have q5 : wr.frozen? ⟨w.heap.size, 1, none⟩ = false := by rw [farf, HW.out]; simp [free_push0]
      have hown := hM.ids
      rw [upTo_len] at hown
      obtain ⟨a1, q1, rfl, m1, _⟩ := own_slice hown
      have HM := Lib.hid hM
      clear hM far farf hown
      go_wp2
      refine bodyPost_ret (v := .agg #[.slice a1 k q1, .slice a2 k k]) (by rw [results_c (fn := Try.f21) rfl]; go_simp) rfl ?_
      exact ⟨⟨_, _, _, _, rfl, (HM.out.done (by omega) _ _).mono (by omega)⟩, HM.out.back (by rw [HW.out]; exact (Below.refl _ _).alloc (Nat.le_refl _) _) (Nat.le_refl _) _ _⟩
end Go.Proofs.Ytfbbkiibhdgojaa
