/- What full of layer 6's laws answers: aggregates, two and three operands. -/
import Derived.Test.YtdbahiepihkagaaGreatDoorExprW5
namespace Go.Proofs.YtdbahiepihkagaaGreatDoor
set_option maxRecDepth 100000
open Go.RowKit

def Src.Full (S : Src) (p : Nat) (T : Bytes) : Prop := ∀ W, Below S.w.heap.size S.w W →
  Calls Tryz.prog 23 #[.slice (some ⟨S.b, S.o, none⟩) S.xs.length S.c, .int .i64 (p : Int), .slice S.na S.ns.length S.nc] W fun e w' => e = .returned (.string (mkS T)) ∧ Below W.heap.size W w'
theorem Sits.part {xs : List (Int × Int)} {p : Nat} {x : Ex} (h : Sits xs p x) : (xs.drop p).take x.flat.length = x.flat := by
  obtain ⟨r, h⟩ := h
  rw [h, List.take_left]
set_option maxHeartbeats 2000000 in
theorem fullLeaf_any (S : Src) (hS : S.Ok) (hcap : S.xs.length ≤ S.c) (p : Nat) (t : Int × Int) (hs : Sits S.xs p (.leaf t)) (hw : arF t.1 = 0) (ha : argB t S.ns.length = true) : S.Full p (leafT S.ns t) := by
  intro W hW
  have hc0 := (hS.cells hs hW).1
  have hlt := hs.lt
  have hfew := hS.few
  have q0 : (0 : Int) ≤ (p : Int) := by omega
  have q1 : (p : Int) < (S.xs.length : Int) := by omega
  have q2 : (p : Int) + 1 ≤ (S.c : Int) := by omega
  have HE := Lib.hid (fun W' (h : Below W.heap.size W W') => endR_any (some ⟨S.b, S.o, none⟩) S.c S.xs p W' (hS.links.below (hW.trans (h.mono hW.size))) (by omega))
  rw [hs.end_ (show (Ex.leaf t).wf from hw)] at HE
  have e1 : ((p + (Ex.leaf t).flat.length : Nat) : Int) = (p : Int) + 1 := by
    show ((p + 1 : Nat) : Int) = _
    omega
  rw [e1] at HE
  have hpt := hs.part
  have HL := Lib.hid (fun W' (h : Below W.heap.size W W') => (LinksAt.part (hS.links.below (hW.trans (h.mono hW.size))) (p := p) (m := 1) (by omega)))
  have ep : (S.xs.drop p).take 1 = [t] := hpt
  rw [ep] at HL
  have har := fun W => arityR_any t.1 W
  rw [hw] at har
  have ht64 : ∀ x ∈ [t], I64 x.1 ∧ I64 x.2 := fun x hx => (HL.out W (Below.refl _ _)).fits x hx
  have HT : Hid (∀ (W' : World) (a' : Option Addr) (c' B : Nat), Below W.heap.size W W' → OwnT B W' (.slice a' 1 c') [t] → Calls Tryz.prog 44 #[.slice a' 1 c', .int .i64 0, .slice S.na S.ns.length S.nc] W' fun e w' => e = .returned (.string (mkS (leafT S.ns t))) ∧ Below W'.heap.size W' w') := Lib.hid (fun W' a' c' B hb O => by
    obtain ⟨g, rfl, _, _⟩ := own_some O (by simp)
    have h := leaf_any (Src.mk W' g 0 c' [t] S.na S.nc S.ns) ⟨O.links ht64, hS.names.below (hW.trans (hb.mono hW.size)) rfl, hS.good, by show 1 ≤ 1000; omega⟩ 0 t ⟨[], rfl⟩ hw ha
    exact h W' (Below.refl _ _))
  obtain ⟨op, arg⟩ := t
  change W.cell? _ = some (.int .i64 op) at hc0
  dsimp only at har
  clear hs hw hW hS ha hpt ep hcap ht64 e1
  generalize mkS (leafT S.ns (op, arg)) = z at *
  generalize S.xs.length = m at *
  generalize S.ns.length = k at *
  go_enter Tryz.func23, Tryz.ntmps23
  go_wp2_with (first
    | (go_at_call 45; refine (HE.out _ (Below.refl _ _)).mono ?_; rintro e w1 ⟨rfl, hb1⟩)
    | (at_builtin; refine wpList_copyT rfl _ (.tmp 23) rfl (some ⟨S.b, S.o + p * 2, none⟩) (S.c - p) [(op, arg)] 1 rfl rfl rfl (HL.out _ hb1) (by simp) ?_; intro a2 c2 w2 O2 hb2; have hB2 := hb1.trans (hb2.mono hb1.size))
    | (go_at_call 46; refine (har _).mono ?_; rintro e w3 ⟨rfl, rfl⟩)
    | (go_at_call 44; refine (HT.out _ _ _ _ hB2 O2).mono ?_; rintro e w4 ⟨rfl, hb4⟩))
  go_ret
  exact ⟨rfl, hB2.trans (hb4.mono hB2.size)⟩
end Go.Proofs.YtdbahiepihkagaaGreatDoor
namespace Go.Proofs.YtdbahiepihkagaaGreatDoor
set_option maxRecDepth 100000
open Go.RowKit

/-- what each walk of full needs: the end, and the part that it copies -/
structure FullPre (S : Src) (W : World) (p q : Nat) (x : Ex) : Prop where
  le : p ≤ q
  cap : q ≤ S.c
  len : q - p = x.flat.length
  end_ : ∀ W', Below W.heap.size W W' → Calls Tryz.prog 45 #[.slice (some ⟨S.b, S.o, none⟩) S.xs.length S.c, .int .i64 (p : Int)] W' fun e w' => e = .returned (.int .i64 (q : Int)) ∧ Below W'.heap.size W' w'
  part : ∀ W', Below W.heap.size W W' → LinksAt W' (some ⟨S.b, S.o + p * 2, none⟩) x.flat
  few : x.flat.length ≤ 1000
theorem full_pre {S : Src} (hS : S.Ok) (hcap : S.xs.length ≤ S.c) {p : Nat} {x : Ex} (hs : Sits S.xs p x) (hw : x.wf) {W : World} (hW : Below S.w.heap.size S.w W) : FullPre S W p (p + x.flat.length) x where
  le := by omega
  cap := by have := hs.le; omega
  len := by omega
  end_ := fun W' h => by
    have := endR_any (some ⟨S.b, S.o, none⟩) S.c S.xs p W' (hS.links.below (hW.trans (h.mono hW.size))) (by have := hS.few; omega)
    rwa [hs.end_ hw] at this
  part := fun W' h => by
    have := LinksAt.part (hS.links.below (hW.trans (h.mono hW.size))) (p := p) (m := x.flat.length) hs.le
    rwa [hs.part] at this
  few := by have := hs.le; have := hS.few; omega
set_option maxHeartbeats 2000000 in
theorem fullNeg_any (S : Src) (hS : S.Ok) (hcap : S.xs.length ≤ S.c) (p : Nat) (t : Int × Int) (a : Ex) (hs : Sits S.xs p (.un t a)) (hw : (Ex.un t a).wf) (hn : t.1 = 18 ∨ t.1 = 19) (T : Bytes) (hT : S.Full (p + 1) T) (hl : T.length ≤ 50000) : S.Full p (wordF t.1 ++ prn T) := by
  intro W hW
  have hc0 := (hS.cells hs hW).1
  have hlt := hs.lt
  have hfew := hS.few
  have q0 : (0 : Int) ≤ (p : Int) := by omega
  have q1 : (p : Int) < (S.xs.length : Int) := by omega
  have HQ := Lib.hid (full_pre hS hcap hs hw hW)
  obtain ⟨q, hq⟩ : ∃ q, q = p + (Ex.un t a).flat.length := ⟨_, rfl⟩
  rw [← hq] at HQ
  have q2 : (p : Int) ≤ (q : Int) := by have := HQ.out.le; omega
  have q3 : (q : Int) ≤ (S.c : Int) := by have := HQ.out.cap; omega
  have HE := Lib.hid HQ.out.end_
  have q4 : ¬ S.c = p := by omega
  unfold Src.Full at hT
  have ep : ((p + 1 : Nat) : Int) = (p : Int) + 1 := by omega
  rw [ep] at hT
  have HB := Lib.hid (fun W' (h : Below W.heap.size W W') => hT W' (hW.trans (h.mono hW.size)))
  have har := fun W => arityR_any t.1 W
  rw [hw.1] at har
  obtain ⟨xf, hxf⟩ : ∃ xf, xf = (Ex.un t a).flat := ⟨_, rfl⟩
  have HPt : Hid (∀ W', Below W.heap.size W W' → LinksAt W' (some ⟨S.b, S.o + p * 2, none⟩) xf) := Lib.hid (by rw [hxf]; exact HQ.out.part)
  have HLn : Hid (q - p = xf.length ∧ xf.length ≤ 1000) := Lib.hid (by rw [hxf]; exact ⟨HQ.out.len, HQ.out.few⟩)
  obtain ⟨op, arg⟩ := t
  change W.cell? _ = some (.int .i64 op) at hc0
  dsimp only at hn har ⊢
  have add1 : ∀ W, (Op.stringOp .add ⟨#[40]⟩ (mkS T)).run Tryz.prog W = .ok (.string (mkS (40 :: T))) W := fun W => mkS_add [40] T (by simp) (by omega) W
  have add2 : ∀ W, (Op.stringOp .add (mkS (40 :: T)) ⟨#[41]⟩).run Tryz.prog W = .ok (.string (mkS (prn T))) W := fun W => mkS_add (40 :: T) [41] (by simp; omega) (by simp) W
  have add3 : ∀ W, (Op.stringOp .add ⟨#[45]⟩ (mkS (prn T))).run Tryz.prog W = .ok (.string (mkS (45 :: prn T))) W := fun W => mkS_add [45] _ (by simp) (by rw [prn_len]; omega) W
  have add4 : ∀ W, (Op.stringOp .add ⟨#[33]⟩ (mkS (prn T))).run Tryz.prog W = .ok (.string (mkS (33 :: prn T))) W := fun W => mkS_add [33] _ (by simp) (by rw [prn_len]; omega) W
  clear hs hW hS hT hcap hw hq hxf HQ
  generalize mkS (40 :: T) = z1 at *
  generalize S.xs.length = m at *
  generalize S.ns.length = k at *
  rcases hn with rfl | rfl
  · show Calls _ _ _ _ fun e w' => e = .returned (.string (mkS (45 :: prn T))) ∧ _
    generalize mkS (45 :: prn T) = z3 at *
    generalize mkS (33 :: prn T) = z4 at *
    generalize mkS (prn T) = z2 at *
    go_enter Tryz.func23, Tryz.ntmps23
    go_wp2_with (first
      | (go_at_call 45; refine (HE.out _ (Below.refl _ _)).mono ?_; rintro e w1 ⟨rfl, hb1⟩)
      | (at_builtin; refine wpList_copyT rfl _ (.tmp 23) rfl (some ⟨S.b, S.o + p * 2, none⟩) (S.c - p) xf (q - p) HLn.out.1 rfl rfl (HPt.out _ hb1) (by have := HLn.out.2; omega) ?_; intro a2 c2 w2 O2 hb2; have hB2 := hb1.trans (hb2.mono hb1.size))
      | (go_at_call 46; refine (har _).mono ?_; rintro e w3 ⟨rfl, rfl⟩)
      | (go_at_call 23; refine (HB.out _ hB2).mono ?_; rintro e w4 ⟨rfl, hb4⟩; have hB4 := hB2.trans (hb4.mono hB2.size)))
    go_ret
    exact ⟨rfl, hB4⟩
  · show Calls _ _ _ _ fun e w' => e = .returned (.string (mkS (33 :: prn T))) ∧ _
    generalize mkS (45 :: prn T) = z3 at *
    generalize mkS (33 :: prn T) = z4 at *
    generalize mkS (prn T) = z2 at *
    go_enter Tryz.func23, Tryz.ntmps23
    go_wp2_with (first
      | (go_at_call 45; refine (HE.out _ (Below.refl _ _)).mono ?_; rintro e w1 ⟨rfl, hb1⟩)
      | (at_builtin; refine wpList_copyT rfl _ (.tmp 23) rfl (some ⟨S.b, S.o + p * 2, none⟩) (S.c - p) xf (q - p) HLn.out.1 rfl rfl (HPt.out _ hb1) (by have := HLn.out.2; omega) ?_; intro a2 c2 w2 O2 hb2; have hB2 := hb1.trans (hb2.mono hb1.size))
      | (go_at_call 46; refine (har _).mono ?_; rintro e w3 ⟨rfl, rfl⟩)
      | (go_at_call 23; refine (HB.out _ hB2).mono ?_; rintro e w4 ⟨rfl, hb4⟩; have hB4 := hB2.trans (hb4.mono hB2.size)))
    go_ret
    exact ⟨rfl, hB4⟩
end Go.Proofs.YtdbahiepihkagaaGreatDoor
namespace Go.Proofs.YtdbahiepihkagaaGreatDoor
set_option maxRecDepth 100000
open Go.RowKit

def aggC : Array Value := #[.string ⟨#[97, 108, 108]⟩, .string ⟨#[115, 111, 109, 101]⟩, .string ⟨#[99, 111, 117, 110, 116]⟩, .string ⟨#[102, 105, 114, 115, 116]⟩, .string ⟨#[109, 105, 110]⟩, .string ⟨#[109, 97, 120]⟩, .string ⟨#[115, 117, 109]⟩, .string ⟨#[109, 101, 120]⟩, .string ⟨#[115, 101, 99, 111, 110, 100]⟩, .string ⟨#[104, 101, 97, 100]⟩]
def signC : Array Value := #[.string ⟨#[42]⟩, .string ⟨#[47]⟩, .string ⟨#[37]⟩, .string ⟨#[43]⟩, .string ⟨#[45]⟩, .string ⟨#[61, 61]⟩, .string ⟨#[33, 61]⟩, .string ⟨#[60]⟩, .string ⟨#[60, 61]⟩, .string ⟨#[62]⟩, .string ⟨#[62, 61]⟩, .string ⟨#[38, 38]⟩, .string ⟨#[124, 124]⟩]
theorem aggC_at (j : Nat) (hj : j < 10) : aggC[j]? = some (.string (mkS (wordF ((j : Int) + 20)))) := by
  have h : aggC = ((wordL.drop 20).take 10 |>.map fun l => Value.string (mkS l)).toArray := rfl
  rw [h, List.getElem?_toArray, List.getElem?_map, List.getElem?_take_of_lt hj, List.getElem?_drop]
  unfold wordF
  rw [show ((j : Int) + 20).toNat = 20 + j by omega, List.getD_eq_getElem?_getD, List.getElem?_eq_getElem (show 20 + j < wordL.length by show 20 + j < 44; omega)]
  rfl
theorem signC_at (j : Nat) (hj : j < 13) : signC[j]? = some (.string (mkS (wordF ((j : Int) + 30)))) := by
  have h : signC = ((wordL.drop 30).take 13 |>.map fun l => Value.string (mkS l)).toArray := rfl
  rw [h, List.getElem?_toArray, List.getElem?_map, List.getElem?_take_of_lt hj, List.getElem?_drop]
  unfold wordF
  rw [show ((j : Int) + 30).toNat = 30 + j by omega, List.getD_eq_getElem?_getD, List.getElem?_eq_getElem (show 30 + j < wordL.length by show 30 + j < 44; omega)]
  rfl
set_option maxHeartbeats 4000000 in
theorem fullAgg_any (S : Src) (hS : S.Ok) (hcap : S.xs.length ≤ S.c) (p : Nat) (t : Int × Int) (a : Ex) (hs : Sits S.xs p (.un t a)) (hw : (Ex.un t a).wf) (hn : 20 ≤ t.1 ∧ t.1 ≤ 29) (T : Bytes) (hT : S.Full (p + 1) T) (hl : T.length ≤ 50000) : S.Full p (wordF t.1 ++ prn T) := by
  intro W hW
  have hc0 := (hS.cells hs hW).1
  have hlt := hs.lt
  have hfew := hS.few
  have hle := hs.le
  have q0 : (0 : Int) ≤ (p : Int) := by omega
  have q1 : (p : Int) < (S.xs.length : Int) := by omega
  have HQ := Lib.hid (full_pre hS hcap hs hw hW)
  obtain ⟨q, hq⟩ : ∃ q, q = p + (Ex.un t a).flat.length := ⟨_, rfl⟩
  rw [← hq] at HQ
  have q2 : (p : Int) ≤ (q : Int) := by have := HQ.out.le; omega
  have q3 : (q : Int) ≤ (S.c : Int) := by have := HQ.out.cap; omega
  have HE := Lib.hid HQ.out.end_
  have q4 : ¬ S.c = p := by omega
  unfold Src.Full at hT
  have ep : ((p + 1 : Nat) : Int) = (p : Int) + 1 := by omega
  rw [ep] at hT
  have HB := Lib.hid (fun W' (h : Below W.heap.size W W') => hT W' (hW.trans (h.mono hW.size)))
  have har := fun W => arityR_any t.1 W
  rw [hw.1] at har
  obtain ⟨xf, hxf⟩ : ∃ xf, xf = (Ex.un t a).flat := ⟨_, rfl⟩
  have HPt : Hid (∀ W', Below W.heap.size W W' → LinksAt W' (some ⟨S.b, S.o + p * 2, none⟩) xf) := Lib.hid (by rw [hxf]; exact HQ.out.part)
  have HLn : Hid (q - p = xf.length ∧ xf.length ≤ 1000) := Lib.hid (by rw [hxf]; exact ⟨HQ.out.len, HQ.out.few⟩)
  obtain ⟨op, arg⟩ := t
  change W.cell? _ = some (.int .i64 op) at hc0
  dsimp only at hn har ⊢
  obtain ⟨j, rfl⟩ : ∃ j : Nat, op = (j : Int) + 20 := ⟨(op - 20).toNat, by omega⟩
  have hj : j < 10 := by omega
  have hwl : (wordF ((j : Int) + 20)).length ≤ 6 := (agg_word hn).2.2.2.2.2.2
  have hcell : ∀ W : World, (W.alloc (.cells aggC 9)).cell? ⟨W.heap.size, j, none⟩ = some (.string (mkS (wordF ((j : Int) + 20)))) := fun W => (World.cell?_alloc_new W aggC _ j).trans (aggC_at j hj)
  unfold aggC at hcell
  have add1 : ∀ W, (Op.stringOp .add ⟨#[40]⟩ (mkS T)).run Tryz.prog W = .ok (.string (mkS (40 :: T))) W := fun W => mkS_add [40] T (by simp) (by omega) W
  have add2 : ∀ W, (Op.stringOp .add (mkS (40 :: T)) ⟨#[41]⟩).run Tryz.prog W = .ok (.string (mkS (prn T))) W := fun W => mkS_add (40 :: T) [41] (by simp; omega) (by simp) W
  have add3 : ∀ W, (Op.stringOp .add (mkS (wordF ((j : Int) + 20))) (mkS (prn T))).run Tryz.prog W = .ok (.string (mkS (wordF ((j : Int) + 20) ++ prn T))) W := fun W => mkS_add _ _ (by omega) (by rw [prn_len]; omega) W
  have d18 : ((j : Int) + 20 == 18) = false := by simp; omega
  have d19 : ((j : Int) + 20 == 19) = false := by simp; omega
  have r0 : (0 : Int) ≤ (j : Int) := by omega
  have r1 : (j : Int) < 10 := by omega
  clear hs hW hS hT hcap hw hq hxf HQ hwl hle
  generalize mkS (40 :: T) = z1 at *
  generalize S.xs.length = m at *
  generalize S.ns.length = k at *
  generalize mkS (wordF ((j : Int) + 20) ++ prn T) = z3 at *
  generalize mkS (wordF ((j : Int) + 20)) = z4 at *
  generalize mkS (prn T) = z2 at *
  go_enter Tryz.func23, Tryz.ntmps23
  go_wp2_with (first
    | (go_at_call 45; refine (HE.out _ (Below.refl _ _)).mono ?_; rintro e w1 ⟨rfl, hb1⟩)
    | (at_builtin; refine wpList_copyT rfl _ (.tmp 23) rfl (some ⟨S.b, S.o + p * 2, none⟩) (S.c - p) xf (q - p) HLn.out.1 rfl rfl (HPt.out _ hb1) (by have := HLn.out.2; omega) ?_; intro a2 c2 w2 O2 hb2; have hB2 := hb1.trans (hb2.mono hb1.size))
    | (go_at_call 46; refine (har _).mono ?_; rintro e w3 ⟨rfl, rfl⟩)
    | (go_at_call 23; refine (HB.out _ hB2).mono ?_; rintro e w4 ⟨rfl, hb4⟩; have hB4 := hB2.trans (hb4.mono hB2.size)))
  go_ret
  exact ⟨rfl, hB4.alloc hB4.size _⟩
set_option maxHeartbeats 4000000 in
theorem fullBi_any (S : Src) (hS : S.Ok) (hcap : S.xs.length ≤ S.c) (p : Nat) (t : Int × Int) (a b : Ex) (hs : Sits S.xs p (.bi t a b)) (hw : (Ex.bi t a b).wf) (T U : Bytes) (hT : S.Full (p + 1) T) (hU : S.Full (p + 1 + a.flat.length) U) (hl : T.length ≤ 30000) (hl2 : U.length ≤ 30000) : S.Full p (prn T ++ 32 :: (wordF t.1 ++ 32 :: prn U)) := by
  intro W hW
  have hc0 := (hS.cells hs hW).1
  have hlt := hs.lt
  have hfew := hS.few
  have hle := hs.le
  have q0 : (0 : Int) ≤ (p : Int) := by omega
  have q1 : (p : Int) < (S.xs.length : Int) := by omega
  have HQ := Lib.hid (full_pre hS hcap hs hw hW)
  obtain ⟨q, hq⟩ : ∃ q, q = p + (Ex.bi t a b).flat.length := ⟨_, rfl⟩
  rw [← hq] at HQ
  have q2 : (p : Int) ≤ (q : Int) := by have := HQ.out.le; omega
  have q3 : (q : Int) ≤ (S.c : Int) := by have := HQ.out.cap; omega
  have HE := Lib.hid HQ.out.end_
  have q4 : ¬ S.c = p := by omega
  unfold Src.Full at hT hU
  have ep : ((p + 1 : Nat) : Int) = (p : Int) + 1 := by omega
  rw [ep] at hT
  have HB := Lib.hid (fun W' (h : Below W.heap.size W W') => hT W' (hW.trans (h.mono hW.size)))
  have HC := Lib.hid (fun W' (h : Below W.heap.size W W') => hU W' (hW.trans (h.mono hW.size)))
  have HO := Lib.hid (fun W' (h : Below W.heap.size W W') => operandR_any (some ⟨S.b, S.o, none⟩) S.c S.xs p 1 W' (hS.links.below (hW.trans (h.mono hW.size))) (by omega))
  rw [opd_bi hs hw] at HO
  have har := fun W => arityR_any t.1 W
  rw [hw.1] at har
  obtain ⟨xf, hxf⟩ : ∃ xf, xf = (Ex.bi t a b).flat := ⟨_, rfl⟩
  have HPt : Hid (∀ W', Below W.heap.size W W' → LinksAt W' (some ⟨S.b, S.o + p * 2, none⟩) xf) := Lib.hid (by rw [hxf]; exact HQ.out.part)
  have HLn : Hid (q - p = xf.length ∧ xf.length ≤ 1000) := Lib.hid (by rw [hxf]; exact ⟨HQ.out.len, HQ.out.few⟩)
  obtain ⟨op, arg⟩ := t
  change W.cell? _ = some (.int .i64 op) at hc0
  have hn := ar_bi hw.1
  dsimp only at hn har ⊢
  obtain ⟨j, rfl⟩ : ∃ j : Nat, op = (j : Int) + 30 := ⟨(op - 30).toNat, by omega⟩
  have hj : j < 13 := by omega
  have hwl : (wordF ((j : Int) + 30)).length ≤ 2 := (sign_word hn).2.2.2.2.2
  have hcell : ∀ W : World, (W.alloc (.cells signC 9)).cell? ⟨W.heap.size, j, none⟩ = some (.string (mkS (wordF ((j : Int) + 30)))) := fun W => (World.cell?_alloc_new W signC _ j).trans (signC_at j hj)
  unfold signC at hcell
  have lt := prn_len T
  have lu := prn_len U
  have add1 : ∀ W, (Op.stringOp .add ⟨#[40]⟩ (mkS T)).run Tryz.prog W = .ok (.string (mkS (40 :: T))) W := fun W => mkS_add [40] T (by simp) (by omega) W
  have add2 : ∀ W, (Op.stringOp .add (mkS (40 :: T)) ⟨#[41]⟩).run Tryz.prog W = .ok (.string (mkS (prn T))) W := fun W => mkS_add (40 :: T) [41] (by simp; omega) (by simp) W
  have add3 : ∀ W, (Op.stringOp .add ⟨#[40]⟩ (mkS U)).run Tryz.prog W = .ok (.string (mkS (40 :: U))) W := fun W => mkS_add [40] U (by simp) (by omega) W
  have add4 : ∀ W, (Op.stringOp .add (mkS (40 :: U)) ⟨#[41]⟩).run Tryz.prog W = .ok (.string (mkS (prn U))) W := fun W => mkS_add (40 :: U) [41] (by simp; omega) (by simp) W
  have add5 : ∀ W, (Op.stringOp .add (mkS (prn T)) ⟨#[32]⟩).run Tryz.prog W = .ok (.string (mkS (prn T ++ [32]))) W := fun W => mkS_add _ [32] (by omega) (by simp) W
  have add6 : ∀ W, (Op.stringOp .add (mkS (prn T ++ [32])) (mkS (wordF ((j : Int) + 30)))).run Tryz.prog W = .ok (.string (mkS (prn T ++ [32] ++ wordF ((j : Int) + 30)))) W := fun W => mkS_add _ _ (by simp; omega) (by omega) W
  have add7 : ∀ W, (Op.stringOp .add (mkS (prn T ++ [32] ++ wordF ((j : Int) + 30))) ⟨#[32]⟩).run Tryz.prog W = .ok (.string (mkS (prn T ++ [32] ++ wordF ((j : Int) + 30) ++ [32]))) W := fun W => mkS_add _ [32] (by simp; omega) (by simp) W
  have add8 : ∀ W, (Op.stringOp .add (mkS (prn T ++ [32] ++ wordF ((j : Int) + 30) ++ [32])) (mkS (prn U))).run Tryz.prog W = .ok (.string (mkS (prn T ++ 32 :: (wordF ((j : Int) + 30) ++ 32 :: prn U)))) W := fun W => by
    have := mkS_add (prn T ++ [32] ++ wordF ((j : Int) + 30) ++ [32]) (prn U) (by simp; omega) (by omega) W
    have e : prn T ++ [32] ++ wordF ((j : Int) + 30) ++ [32] ++ prn U = prn T ++ 32 :: (wordF ((j : Int) + 30) ++ 32 :: prn U) := by simp
    rw [e] at this
    exact this
  have d18 : ((j : Int) + 30 == 18) = false := by simp; omega
  have d19 : ((j : Int) + 30 == 19) = false := by simp; omega
  have d43 : ((j : Int) + 30 == 43) = false := by simp; omega
  have r0 : (0 : Int) ≤ (j : Int) := by omega
  have r1 : (j : Int) < 13 := by omega
  clear hs hW hS hT hU hcap hw hq hxf HQ hwl hle lt lu hn
  generalize S.xs.length = m at *
  generalize S.ns.length = k at *
  generalize mkS (prn T ++ 32 :: (wordF ((j : Int) + 30) ++ 32 :: prn U)) = z9 at *
  generalize mkS (prn T ++ [32] ++ wordF ((j : Int) + 30) ++ [32]) = z8 at *
  generalize mkS (prn T ++ [32] ++ wordF ((j : Int) + 30)) = z7 at *
  generalize mkS (prn T ++ [32]) = z6 at *
  generalize mkS (wordF ((j : Int) + 30)) = z5 at *
  generalize mkS (40 :: T) = z1 at *
  generalize mkS (prn T) = z2 at *
  generalize mkS (40 :: U) = z3 at *
  generalize mkS (prn U) = z4 at *
  generalize p + 1 + a.flat.length = r at *
  go_enter Tryz.func23, Tryz.ntmps23
  go_wp2_with (first
    | (go_at_call 45; refine (HE.out _ (Below.refl _ _)).mono ?_; rintro e w1 ⟨rfl, hb1⟩)
    | (at_builtin; refine wpList_copyT rfl _ (.tmp 23) rfl (some ⟨S.b, S.o + p * 2, none⟩) (S.c - p) xf (q - p) HLn.out.1 rfl rfl (HPt.out _ hb1) (by have := HLn.out.2; omega) ?_; intro a2 c2 w2 O2 hb2; have hB2 := hb1.trans (hb2.mono hb1.size))
    | (go_at_call 46; refine (har _).mono ?_; rintro e w3 ⟨rfl, rfl⟩)
    | (go_at_call 47; refine (HO.out _ hB4).mono ?_; rintro e w5 ⟨rfl, hb5⟩; have hB5 := hB4.trans (hb5.mono hB4.size))
    | (go_at_call 23; first
        | ((with_reducible refine (HC.out _ hB5).mono ?_); rintro e w6 ⟨rfl, hb6⟩; have hB6 := hB5.trans (hb6.mono hB5.size))
        | ((with_reducible refine (HB.out _ hB2).mono ?_); rintro e w4 ⟨rfl, hb4⟩; have hB4 := hB2.trans (hb4.mono hB2.size))))
  go_ret
  exact ⟨rfl, hB6.alloc hB6.size _⟩
end Go.Proofs.YtdbahiepihkagaaGreatDoor
