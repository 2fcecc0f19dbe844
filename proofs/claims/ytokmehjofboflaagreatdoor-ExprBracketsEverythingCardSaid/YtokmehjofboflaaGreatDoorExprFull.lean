/- What full of layer 6's laws answers. -/
import Derived.Test.YtokmehjofboflaaGreatDoorExprW3
namespace Go.Proofs.YtokmehjofboflaaGreatDoor
set_option maxRecDepth 100000
open Go.RowKit

def Src.Full (S : Src) (p : Nat) (T : Bytes) : Prop := ∀ W, Below S.w.heap.size S.w W →
  Calls Tryz.prog 18 #[.slice (some ⟨S.b, S.o, none⟩) S.xs.length S.c, .int .i64 (p : Int), .slice S.na S.ns.length S.nc] W fun e w' => e = .returned (.string (mkS T)) ∧ Below W.heap.size W w'
theorem Sits.part {xs : List (Int × Int)} {p : Nat} {x : Ex} (h : Sits xs p x) : (xs.drop p).take x.flat.length = x.flat := by
  obtain ⟨r, h⟩ := h
  rw [h, List.take_left]
set_option maxHeartbeats 2000000 in
theorem fullLeaf_any (S : Src) (hS : S.Ok) (hcap : S.xs.length ≤ S.c) (p : Nat) (t : Int × Int) (hs : Sits S.xs p (.leaf t)) (hw : arF t.1 = 0) (ha : argB t S.ns.length = true) : S.Full p (leafT S.ns t) := by
  intro W hW
  have hc0 := (hS.cells hs hW).1
  have hlt := hs.lt
  have hfew := hS.few
  have q0 : (0 : Int) ≤ (p : Int) := by omega
  have q1 : (p : Int) < (S.xs.length : Int) := by omega
  have q2 : (p : Int) + 1 ≤ (S.c : Int) := by omega
  have HE := Lib.hid (fun W' (h : Below W.heap.size W W') => endR_any (some ⟨S.b, S.o, none⟩) S.c S.xs p W' (hS.links.below (hW.trans (h.mono hW.size))) (by omega))
  rw [hs.end_ (show (Ex.leaf t).wf from hw)] at HE
  have e1 : ((p + (Ex.leaf t).flat.length : Nat) : Int) = (p : Int) + 1 := by
    show ((p + 1 : Nat) : Int) = _
    omega
  rw [e1] at HE
  have hpt := hs.part
  have HL := Lib.hid (fun W' (h : Below W.heap.size W W') => (LinksAt.part (hS.links.below (hW.trans (h.mono hW.size))) (p := p) (m := 1) (by omega)))
  have ep : (S.xs.drop p).take 1 = [t] := hpt
  rw [ep] at HL
  have har := fun W => arityR_any t.1 W
  rw [hw] at har
  have ht64 : ∀ x ∈ [t], I64 x.1 ∧ I64 x.2 := fun x hx => (HL.out W (Below.refl _ _)).fits x hx
  have HT : Hid (∀ (W' : World) (a' : Option Addr) (c' B : Nat), Below W.heap.size W W' → OwnT B W' (.slice a' 1 c') [t] → Calls Tryz.prog 31 #[.slice a' 1 c', .int .i64 0, .slice S.na S.ns.length S.nc] W' fun e w' => e = .returned (.string (mkS (leafT S.ns t))) ∧ Below W'.heap.size W' w') := Lib.hid (fun W' a' c' B hb O => by
    obtain ⟨g, rfl, _, _⟩ := own_some O (by simp)
    have h := leaf_any (Src.mk W' g 0 c' [t] S.na S.nc S.ns) ⟨O.links ht64, hS.names.below (hW.trans (hb.mono hW.size)) rfl, hS.good, by show 1 ≤ 1000; omega⟩ 0 t ⟨[], rfl⟩ hw ha
    exact h W' (Below.refl _ _))
  obtain ⟨op, arg⟩ := t
  change W.cell? _ = some (.int .i64 op) at hc0
  dsimp only at har
  clear hs hw hW hS ha hpt ep hcap ht64 e1
  generalize mkS (leafT S.ns (op, arg)) = z at *
  generalize S.xs.length = m at *
  generalize S.ns.length = k at *
  go_enter Tryz.func18, Tryz.ntmps18
  go_wp2_with (first
    | (go_at_call 32; refine (HE.out _ (Below.refl _ _)).mono ?_; rintro e w1 ⟨rfl, hb1⟩)
    | (at_builtin; refine wpList_copyT rfl _ (.tmp 23) rfl (some ⟨S.b, S.o + p * 2, none⟩) (S.c - p) [(op, arg)] 1 rfl rfl rfl (HL.out _ hb1) (by simp) ?_; intro a2 c2 w2 O2 hb2; have hB2 := hb1.trans (hb2.mono hb1.size))
    | (go_at_call 33; refine (har _).mono ?_; rintro e w3 ⟨rfl, rfl⟩)
    | (go_at_call 31; refine (HT.out _ _ _ _ hB2 O2).mono ?_; rintro e w4 ⟨rfl, hb4⟩))
  go_ret
  exact ⟨rfl, hB2.trans (hb4.mono hB2.size)⟩
end Go.Proofs.YtokmehjofboflaaGreatDoor
