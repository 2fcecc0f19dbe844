/- What full of layer 6's laws answers: one operand. -/
import Derived.Test.YtokmehjofboflaaGreatDoorExprFull
namespace Go.Proofs.YtokmehjofboflaaGreatDoor
set_option maxRecDepth 100000
open Go.RowKit

/-- what each walk of full needs: the end, and the part that it copies -/
structure FullPre (S : Src) (W : World) (p q : Nat) (x : Ex) : Prop where
  le : p ≤ q
  cap : q ≤ S.c
  len : q - p = x.flat.length
  end_ : ∀ W', Below W.heap.size W W' → Calls Tryz.prog 32 #[.slice (some ⟨S.b, S.o, none⟩) S.xs.length S.c, .int .i64 (p : Int)] W' fun e w' => e = .returned (.int .i64 (q : Int)) ∧ Below W'.heap.size W' w'
  part : ∀ W', Below W.heap.size W W' → LinksAt W' (some ⟨S.b, S.o + p * 2, none⟩) x.flat
  few : x.flat.length ≤ 1000
theorem full_pre {S : Src} (hS : S.Ok) (hcap : S.xs.length ≤ S.c) {p : Nat} {x : Ex} (hs : Sits S.xs p x) (hw : x.wf) {W : World} (hW : Below S.w.heap.size S.w W) : FullPre S W p (p + x.flat.length) x where
  le := by omega
  cap := by have := hs.le; omega
  len := by omega
  end_ := fun W' h => by
    have := endR_any (some ⟨S.b, S.o, none⟩) S.c S.xs p W' (hS.links.below (hW.trans (h.mono hW.size))) (by have := hS.few; omega)
    rwa [hs.end_ hw] at this
  part := fun W' h => by
    have := LinksAt.part (hS.links.below (hW.trans (h.mono hW.size))) (p := p) (m := x.flat.length) hs.le
    rwa [hs.part] at this
  few := by have := hs.le; have := hS.few; omega
set_option maxHeartbeats 2000000 in
theorem fullNeg_any (S : Src) (hS : S.Ok) (hcap : S.xs.length ≤ S.c) (p : Nat) (t : Int × Int) (a : Ex) (hs : Sits S.xs p (.un t a)) (hw : (Ex.un t a).wf) (hn : t.1 = 18 ∨ t.1 = 19) (T : Bytes) (hT : S.Full (p + 1) T) (hl : T.length ≤ 50000) : S.Full p (wordF t.1 ++ prn T) := by
  intro W hW
  have hc0 := (hS.cells hs hW).1
  have hlt := hs.lt
  have hfew := hS.few
  have q0 : (0 : Int) ≤ (p : Int) := by omega
  have q1 : (p : Int) < (S.xs.length : Int) := by omega
  have HQ := Lib.hid (full_pre hS hcap hs hw hW)
  obtain ⟨q, hq⟩ : ∃ q, q = p + (Ex.un t a).flat.length := ⟨_, rfl⟩
  rw [← hq] at HQ
  have q2 : (p : Int) ≤ (q : Int) := by have := HQ.out.le; omega
  have q3 : (q : Int) ≤ (S.c : Int) := by have := HQ.out.cap; omega
  have HE := Lib.hid HQ.out.end_
  have q4 : ¬ S.c = p := by omega
  unfold Src.Full at hT
  have ep : ((p + 1 : Nat) : Int) = (p : Int) + 1 := by omega
  rw [ep] at hT
  have HB := Lib.hid (fun W' (h : Below W.heap.size W W') => hT W' (hW.trans (h.mono hW.size)))
  have har := fun W => arityR_any t.1 W
  rw [hw.1] at har
  obtain ⟨xf, hxf⟩ : ∃ xf, xf = (Ex.un t a).flat := ⟨_, rfl⟩
  have HPt : Hid (∀ W', Below W.heap.size W W' → LinksAt W' (some ⟨S.b, S.o + p * 2, none⟩) xf) := Lib.hid (by rw [hxf]; exact HQ.out.part)
  have HLn : Hid (q - p = xf.length ∧ xf.length ≤ 1000) := Lib.hid (by rw [hxf]; exact ⟨HQ.out.len, HQ.out.few⟩)
  obtain ⟨op, arg⟩ := t
  change W.cell? _ = some (.int .i64 op) at hc0
  dsimp only at hn har ⊢
  have add1 : ∀ W, (Op.stringOp .add ⟨#[40]⟩ (mkS T)).run Tryz.prog W = .ok (.string (mkS (40 :: T))) W := fun W => mkS_add [40] T (by simp) (by omega) W
  have add2 : ∀ W, (Op.stringOp .add (mkS (40 :: T)) ⟨#[41]⟩).run Tryz.prog W = .ok (.string (mkS (prn T))) W := fun W => mkS_add (40 :: T) [41] (by simp; omega) (by simp) W
  have add3 : ∀ W, (Op.stringOp .add ⟨#[45]⟩ (mkS (prn T))).run Tryz.prog W = .ok (.string (mkS (45 :: prn T))) W := fun W => mkS_add [45] _ (by simp) (by rw [prn_len]; omega) W
  have add4 : ∀ W, (Op.stringOp .add ⟨#[33]⟩ (mkS (prn T))).run Tryz.prog W = .ok (.string (mkS (33 :: prn T))) W := fun W => mkS_add [33] _ (by simp) (by rw [prn_len]; omega) W
  clear hs hW hS hT hcap hw hq hxf HQ
  generalize mkS (40 :: T) = z1 at *
  generalize S.xs.length = m at *
  generalize S.ns.length = k at *
  rcases hn with rfl | rfl
  · show Calls _ _ _ _ fun e w' => e = .returned (.string (mkS (45 :: prn T))) ∧ _
    generalize mkS (45 :: prn T) = z3 at *
    generalize mkS (33 :: prn T) = z4 at *
    generalize mkS (prn T) = z2 at *
    go_enter Tryz.func18, Tryz.ntmps18
    go_wp2_with (first
      | (go_at_call 32; refine (HE.out _ (Below.refl _ _)).mono ?_; rintro e w1 ⟨rfl, hb1⟩)
      | (at_builtin; refine wpList_copyT rfl _ (.tmp 23) rfl (some ⟨S.b, S.o + p * 2, none⟩) (S.c - p) xf (q - p) HLn.out.1 rfl rfl (HPt.out _ hb1) (by have := HLn.out.2; omega) ?_; intro a2 c2 w2 O2 hb2; have hB2 := hb1.trans (hb2.mono hb1.size))
      | (go_at_call 33; refine (har _).mono ?_; rintro e w3 ⟨rfl, rfl⟩)
      | (go_at_call 18; refine (HB.out _ hB2).mono ?_; rintro e w4 ⟨rfl, hb4⟩; have hB4 := hB2.trans (hb4.mono hB2.size)))
    go_ret
    exact ⟨rfl, hB4⟩
  · show Calls _ _ _ _ fun e w' => e = .returned (.string (mkS (33 :: prn T))) ∧ _
    generalize mkS (45 :: prn T) = z3 at *
    generalize mkS (33 :: prn T) = z4 at *
    generalize mkS (prn T) = z2 at *
    go_enter Tryz.func18, Tryz.ntmps18
    go_wp2_with (first
      | (go_at_call 32; refine (HE.out _ (Below.refl _ _)).mono ?_; rintro e w1 ⟨rfl, hb1⟩)
      | (at_builtin; refine wpList_copyT rfl _ (.tmp 23) rfl (some ⟨S.b, S.o + p * 2, none⟩) (S.c - p) xf (q - p) HLn.out.1 rfl rfl (HPt.out _ hb1) (by have := HLn.out.2; omega) ?_; intro a2 c2 w2 O2 hb2; have hB2 := hb1.trans (hb2.mono hb1.size))
      | (go_at_call 33; refine (har _).mono ?_; rintro e w3 ⟨rfl, rfl⟩)
      | (go_at_call 18; refine (HB.out _ hB2).mono ?_; rintro e w4 ⟨rfl, hb4⟩; have hB4 := hB2.trans (hb4.mono hB2.size)))
    go_ret
    exact ⟨rfl, hB4⟩
end Go.Proofs.YtokmehjofboflaaGreatDoor
