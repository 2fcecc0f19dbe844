/- variable and brackets of the program's reader; what a panic within a call makes of it. -/
import Derived.Test.YtokmehjofboflaaGreatDoorExprRi
import Derived.Test.YtokmehjofboflaaGreatDoorExprRo
import Derived.Deep.RegionHeld3
namespace Go.Proofs.YtokmehjofboflaaGreatDoor
set_option maxRecDepth 100000
open Go.RowKit

theorem RAt.cells2 {U : Sup} {w w2 : World} {s : St} {xs : List (Int × Int)} (h : RAt U w s xs) {v : Value} (ho : OwnT U.W.heap.size w v xs) (hg : w.grownBy w2 v.ownBlock) (i : Nat) :
    w2.cell? ⟨U.W0.heap.size, i, none⟩ = w.cell? ⟨U.W0.heap.size, i, none⟩ ∧ w2.frozen? ⟨U.W0.heap.size, i, none⟩ = w.frozen? ⟨U.W0.heap.size, i, none⟩ := by
  have hbk : w2.heap[U.W0.heap.size]? = w.heap[U.W0.heap.size]? := hg.block _ h.lt (own_block_ne ho h.up)
  exact ⟨World.cell?_of_block hbk, World.frozen?_of_block hbk⟩
/-- what holds behind the list's step: the reader's struct, ready for the step of the tokens -/
structure MidR (U : Sup) (s : St) (ys : List (Int × Int)) (v v2 : Value) (n c b : Nat) (w2 : World) : Prop where
  c1 : w2.cell? ⟨U.W0.heap.size, 1, none⟩ = some (.slice (some ⟨b, s.i * 4, none⟩) n c)
  f1 : w2.frozen? ⟨U.W0.heap.size, 1, none⟩ = false
  c3 : w2.cell? ⟨U.W0.heap.size, 3, none⟩ = some v
  f3 : w2.frozen? ⟨U.W0.heap.size, 3, none⟩ = false
  fin : ∀ (a' : Option Addr) (c' : Nat), n - 1 ≤ c' → (1 < n → a' = some ⟨b, s.i * 4 + 4, none⟩) → RAt U ((w2.setCell ⟨U.W0.heap.size, 3, none⟩ v2).setCell ⟨U.W0.heap.size, 1, none⟩ (.slice a' (n - 1) c')) s.adv ys
theorem RAt.mid {U : Sup} {w0 w w2 : World} {s : St} {xs ys : List (Int × Int)} (h0 : RAt U w0 s xs) (hi : s.i < U.ts.length) {v v2 : Value} (hv : w0.cell? ⟨U.W0.heap.size, 3, none⟩ = some v) (ho : OwnT U.W.heap.size w0 v xs) (hb : Below w0.heap.size w0 w) (hg : w.grownBy w2 v.ownBlock) (h2 : OwnT U.W.heap.size w2 v2 ys)
    {n c b : Nat} (hn : n = U.ts.length - s.i) (hta : U.ta = some ⟨b, 0, none⟩) (e1 : w0.cell? ⟨U.W0.heap.size, 1, none⟩ = some (.slice (some ⟨b, s.i * 4, none⟩) n c)) : MidR U s ys v v2 n c b w2 := by
  have h := h0.far hb
  have ho' := ho.far hb
  have hl := h0.lt
  have hv' : w.cell? ⟨U.W0.heap.size, 3, none⟩ = some v := (hb.cell (p := ⟨_, 3, none⟩) hl).trans hv
  have e1' : w.cell? ⟨U.W0.heap.size, 1, none⟩ = some (.slice (some ⟨b, s.i * 4, none⟩) n c) := (hb.cell (p := ⟨_, 1, none⟩) hl).trans e1
  have hc := h.cells2 ho' hg
  refine ⟨(hc 1).1.trans e1', (hc 1).2.trans h.f1, (hc 3).1.trans hv', (hc 3).2.trans h.f3, fun a' c' h1 h3 => ?_⟩
  have := (h.put3 hv' ho' hg h2).put1 hi a' c' (by omega) (fun k => ⟨b, hta, by rw [h3 (by omega), Nat.succ_mul]⟩)
  rwa [show U.ts.length - (s.i + 1) = n - 1 by omega] at this
theorem RAt.parts {U : Sup} {w : World} {s : St} {xs : List (Int × Int)} (h : RAt U w s xs) (hi : s.i < U.ts.length) : ∃ n c b, n = U.ts.length - s.i ∧ U.ta = some ⟨b, 0, none⟩ ∧ w.cell? ⟨U.W0.heap.size, 1, none⟩ = some (.slice (some ⟨b, s.i * 4, none⟩) n c) ∧ n ≤ c ∧ 1 ≤ n := by
  obtain ⟨a, c, e1, e2, e3⟩ := h.c1
  obtain ⟨b, hb, rfl⟩ := e3 hi
  exact ⟨_, c, b, rfl, hb, e1, e2, by omega⟩
set_option maxHeartbeats 2000000 in
theorem takeQ_any (U : Sup) (s : St) (xs : List (Int × Int)) (w : World) (h : RAt U w s xs) (hi : s.i < U.ts.length) (hx : xs.length ≤ 100000) (op arg : Int) :
    Calls Tryz.prog 117 #[.pointer (some ⟨U.W0.heap.size, 0, none⟩), .int .i64 op, .int .i64 arg] w fun e w' => e = .returned (.tuple #[]) ∧ RAt U w' s.adv (xs ++ [(op, arg)]) := by
  obtain ⟨n, c, b, hn, hta, e1, e2, hn1⟩ := h.parts hi
  obtain ⟨v, d1, d2⟩ := h.c3
  obtain ⟨va, vc, rfl, _, _⟩ := d2.shape
  have hup := h.up
  have hl := h.lt
  have hsz := h.grow.size
  obtain ⟨m, hm⟩ : ∃ m, m = xs.length := ⟨_, rfl⟩
  rw [← hm] at d1 d2 hx
  have hlit := OwnT.lit w w.heap.size [(op, arg)] #[.int .i64 op, .int .i64 arg] 1 rfl rfl (Nat.le_refl _) (by simp [maxLen])
  have HLit := Lib.hid hlit
  have HM := Lib.hid hm
  have hba := below_alloc6 w (.cells #[.int .i64 op, .int .i64 arg] 38)
  have HO := Lib.hid (d2.far hba)
  have HMid := Lib.hid (fun (w2 : World) (v2 : Value) (hg : (w.alloc (.cells #[.int .i64 op, .int .i64 arg] 38)).grownBy w2 (Value.slice va m vc).ownBlock) (h2 : OwnT U.W.heap.size w2 v2 (xs ++ [(op, arg)])) => h.mid hi d1 d2 hba hg h2 hn hta e1)
  have HB : Hid (U.W.heap.size ≤ (w.alloc (.cells #[.int .i64 op, .int .i64 arg] 38)).heap.size) := Lib.hid (by simp; omega)
  have hf3 := h.f3
  have q1 : ¬ ((n : Int) < 1) := by omega
  clear h d2 hba hlit hta hn hm hi
  generalize hpb : U.W0.heap.size = pb at *
  have hne : pb ≠ w.heap.size := by omega
  clear hsz hup
  by_cases hc1 : c = 1
  · subst hc1
    obtain rfl : n = 1 := by omega
    go_enter Tryz.func117, Tryz.ntmps117
    go_wp2_with (at_builtin; refine wpList_appO rfl (.tmp 10) (.tmp 14) rfl U.W.heap.size w.heap.size _ _ xs [(op, arg)] HO.out HLit.out m 1 HM.out rfl rfl rfl (by omega) HB.out ?_; intro a' c' w2 hown2 hg2; have M := HMid.out w2 _ hg2 hown2; have k1 := M.c1; have g1 := M.f1; have k3 := M.c3; have g3 := M.f3; rw [hpb] at k1 g1 k3 g3; clear hown2 hg2)
    go_end0
    have hF := M.fin (some ⟨b, s.i * 4, none⟩) 0 (Nat.le_refl _) (fun k => by omega)
    rw [hpb] at hF
    exact ⟨rfl, hF⟩
  go_enter Tryz.func117, Tryz.ntmps117
  go_wp2_with (at_builtin; refine wpList_appO rfl (.tmp 10) (.tmp 14) rfl U.W.heap.size w.heap.size _ _ xs [(op, arg)] HO.out HLit.out m 1 HM.out rfl rfl rfl (by omega) HB.out ?_; intro a' c' w2 hown2 hg2; have M := HMid.out w2 _ hg2 hown2; have k1 := M.c1; have g1 := M.f1; have k3 := M.c3; have g3 := M.f3; rw [hpb] at k1 g1 k3 g3; clear hown2 hg2)
  go_end0
  have hF := M.fin (some ⟨b, s.i * 4 + 4, none⟩) (c - 1) (by omega) (fun _ => rfl)
  rw [hpb] at hF
  exact ⟨rfl, hF⟩
set_option maxHeartbeats 2000000 in
theorem aheadQ_any (U : Sup) (s : St) (xs : List (Int × Int)) (w : World) (h : RAt U w s xs) (hi : s.i < U.ts.length) (hx : xs.length ≤ 100000) (p : Nat) (hp : p < xs.length) (op : Int) :
    Calls Tryz.prog 85 #[.pointer (some ⟨U.W0.heap.size, 0, none⟩), .int .i64 (p : Int), .int .i64 op] w fun e w' => e = .returned (.tuple #[]) ∧ RAt U w' s.adv (xs.take p ++ (op, 0) :: xs.drop p) := by
  obtain ⟨n, c, b, hn, hta, e1, e2, hn1⟩ := h.parts hi
  obtain ⟨v, d1, d2⟩ := h.c3
  have hup := h.up
  have hl := h.lt
  have hsz := h.grow.size
  have hba := below_alloc6 w (.cells #[.int .i64 op, .int .i64 0] 38)
  have hlt := World.ownsRow.lt d2
  have HIns := Lib.hid (insert_any U.W.heap.size p v xs (op, 0) w.heap.size (w.alloc (.cells #[.int .i64 op, .int .i64 0] 38)) (d2.far hba) hp (by omega) (heap_alloc_new w _) (fun e => by have := (hlt _ e.symm).2; omega) (by simp; omega))
  have HMid := Lib.hid (fun (w2 : World) (v2 : Value) (hg : (w.alloc (.cells #[.int .i64 op, .int .i64 0] 38)).grownBy w2 v.ownBlock) (h2 : OwnT U.W.heap.size w2 v2 (xs.take p ++ (op, 0) :: xs.drop p)) => h.mid hi d1 d2 hba hg h2 hn hta e1)
  have hf3 := h.f3
  have q1 : ¬ ((n : Int) < 1) := by omega
  clear h d2 hba hta hn hi hlt
  generalize xs.take p ++ (op, 0) :: xs.drop p = ys at *
  generalize hpb : U.W0.heap.size = pb at *
  have hne : pb ≠ w.heap.size := by omega
  clear hsz hup
  by_cases hc1 : c = 1
  · subst hc1
    obtain rfl : n = 1 := by omega
    go_enter Tryz.func85, Tryz.ntmps85
    go_wp2_with (go_at_call 108; refine HIns.out.mono ?_; rintro e w2 ⟨v2, rfl, hown2, hg2⟩; obtain ⟨a2, c2, rfl, _, _⟩ := hown2.shape; have M := HMid.out w2 _ hg2 hown2; have k1 := M.c1; have g1 := M.f1; have k3 := M.c3; have g3 := M.f3; rw [hpb] at k1 g1 k3 g3; clear hown2 hg2)
    go_end0
    have hF := M.fin (some ⟨b, s.i * 4, none⟩) 0 (Nat.le_refl _) (fun k => by omega)
    rw [hpb] at hF
    exact ⟨rfl, hF⟩
  go_enter Tryz.func85, Tryz.ntmps85
  go_wp2_with (go_at_call 108; refine HIns.out.mono ?_; rintro e w2 ⟨v2, rfl, hown2, hg2⟩; obtain ⟨a2, c2, rfl, _, _⟩ := hown2.shape; have M := HMid.out w2 _ hg2 hown2; have k1 := M.c1; have g1 := M.f1; have k3 := M.c3; have g3 := M.f3; rw [hpb] at k1 g1 k3 g3; clear hown2 hg2)
  go_end0
  have hF := M.fin (some ⟨b, s.i * 4 + 4, none⟩) (c - 1) (by omega) (fun _ => rfl)
  rw [hpb] at hF
  exact ⟨rfl, hF⟩

/-! ### Outcomes -/
/-- a panic with the error of a state -/
def Bad6 (U : Sup) (s : St) (e : Ending) (w' : World) : Prop :=
  e = .panicked [{ v := .iface 73 (.agg #[.int .i64 (s.place : Int), .int .i64 (s.err : Int)]), recovered := false }] ∧ U.W.grownBy w' (some U.W0.heap.size) ∧ Below U.W0.heap.size U.W0 w'
def Good6 (U : Sup) (s : St) (xs : List (Int × Int)) (e : Ending) (w' : World) : Prop := e = .returned (.tuple #[]) ∧ RAt U w' s xs
theorem RAt.bad {U : Sup} {w w' : World} {s : St} {xs : List (Int × Int)} (h : RAt U w s xs) (hb : Below w.heap.size w w') : U.W.grownBy w' (some U.W0.heap.size) ∧ Below U.W0.heap.size U.W0 w' := ⟨(h.far hb).grow, (h.far hb).bel⟩
theorem fail_bad6 (U : Sup) (hU : U.Ok) (s : St) (xs : List (Int × Int)) (w : World) (h : RAt U w s xs) (e0 : Nat) :
    Calls Tryz.prog 42 #[.pointer (some ⟨U.W0.heap.size, 0, none⟩), .int .i64 (e0 : Int)] w (Bad6 U (U.env.fail s e0)) := by
  refine (failQ_any U hU s xs w h e0).mono ?_
  rintro e w' ⟨rfl, hb⟩
  rw [fail_good h.good]
  exact ⟨rfl, h.bad hb⟩
set_option maxHeartbeats 1000000 in
theorem expectQ_yes (U : Sup) (hU : U.Ok) (s : St) (xs : List (Int × Int)) (w : World) (h : RAt U w s xs) (x : Bytes) (h0 : x ≠ []) (hx : U.env.word s = x) :
    Calls Tryz.prog 86 #[.pointer (some ⟨U.W0.heap.size, 0, none⟩), .string (mkS x)] w (Good6 U s.adv xs) := by
  have HA := Lib.hid (acceptQ_yes U hU s xs w h x h0 hx)
  clear h hU hx h0
  unfold Good6
  generalize mkS x = X at *
  go_enter Tryz.func86, Tryz.ntmps86
  go_wp2_with (go_at_call 109; refine HA.out.mono ?_; rintro e w1 ⟨rfl, h1⟩)
  go_end0
  exact ⟨rfl, h1⟩
set_option maxHeartbeats 1000000 in
theorem expectQ_no (U : Sup) (hU : U.Ok) (s : St) (xs : List (Int × Int)) (w : World) (h : RAt U w s xs) (x : Bytes) (hx : U.env.word s ≠ x) :
    Calls Tryz.prog 86 #[.pointer (some ⟨U.W0.heap.size, 0, none⟩), .string (mkS x)] w (Bad6 U (U.env.fail s 4)) := by
  have HA := Lib.hid (acceptQ_no U hU s xs w h x hx)
  have HF := Lib.hid (fun W (hb : Below w.heap.size w W) => fail_bad6 U hU s xs W (h.far hb) 4)
  clear h hU hx
  generalize mkS x = X at *
  generalize U.env.fail s 4 = s4 at *
  unfold Bad6 at *
  go_enter Tryz.func86, Tryz.ntmps86
  go_wp2_with (first | (go_at_call 109; refine HA.out.mono ?_; rintro e w1 ⟨rfl, h1⟩) | (go_at_call 42; refine (HF.out _ h1).mono ?_; rintro e w2 ⟨rfl, h2⟩))
  exact ⟨rfl, rfl, h2⟩
/-- expect, whatever comes -/
theorem expectQ_any (U : Sup) (hU : U.Ok) (s : St) (xs : List (Int × Int)) (w : World) (h : RAt U w s xs) (x : UInt8) (X : ByteArray) (hX : mkS [x] = X) :
    Calls Tryz.prog 86 #[.pointer (some ⟨U.W0.heap.size, 0, none⟩), .string X] w (if (U.env.want [x] s).err = 0 then Good6 U (U.env.want [x] s) xs else Bad6 U (U.env.want [x] s)) := by
  subst hX
  by_cases hx : U.env.word s = [x]
  · have e : U.env.want [x] s = s.adv := by unfold Env.want; rw [if_pos hx]
    rw [e, if_pos (show s.adv.err = 0 from h.good)]
    exact expectQ_yes U hU s xs w h [x] (by simp) hx
  · have e : U.env.want [x] s = U.env.fail s 4 := by unfold Env.want; rw [if_neg hx]
    rw [e, if_neg (fail_err _ _ (by decide))]
    exact expectQ_no U hU s xs w h [x] hx
end Go.Proofs.YtokmehjofboflaaGreatDoor
namespace Go.Proofs.YtokmehjofboflaaGreatDoor
set_option maxRecDepth 100000
open Go.RowKit

set_option maxHeartbeats 1000000 in
theorem sindex_any (a : Option Addr) (c : Nat) (ns : List Bytes) (l : Bytes) (w : World) (hN : NamesAt w a ns) (hn : ns.length ≤ 1000000) :
    Calls Tryz.prog 77 #[.slice a ns.length c, .string (mkS l)] w fun e w' => e = .returned (.int .i64 (idxI ns l)) ∧ w' = w := by
  have HX := Lib.hid hN
  have HF := Lib.hid (fun (k : Nat) (h : k < ns.length) => idx_first (l := l) (k := k) h)
  have HO := Lib.hid (idx_none (ns := ns) (l := l))
  have HSame := Lib.hid (mkS_same l)
  have HNot := Lib.hid (fun (x : Bytes) (h : l ≠ x) => mkS_not h)
  obtain ⟨m, hm⟩ : ∃ m, m = ns.length := ⟨_, rfl⟩
  have HM := Lib.hid hm
  obtain ⟨z, hz⟩ : ∃ z, z = idxI ns l := ⟨_, rfl⟩
  have HZ := Lib.hid hz
  rw [← hz, ← hm]
  rw [← hm] at hn
  clear hz hm hN
  go_enter Tryz.func77, Tryz.ntmps77
  go_wp2
  go_loop [8] (fun t => ∃ k : Nat, t = .int .i64 k ∧ k ≤ m ∧ (∀ j, j < k → ns.getD j [] ≠ l)) (fun t => m - (intOf t).toNat)
  case atStart => exact ⟨0, rfl, Nat.zero_le _, (fun j h => by omega)⟩
  case round =>
    obtain ⟨k, rfl, hk, hlow⟩ := hrel
    have HL := Lib.hid hlow
    clear hlow
    by_cases hlt : k < m
    · obtain ⟨b, o, rfl, hb, hc⟩ := HX.out.row (by rw [← HM.out]; omega)
      have hcell := hc k (by rw [← HM.out]; exact hlt)
      clear hc
      obtain ⟨x, hx⟩ : ∃ x, x = ns.getD k [] := ⟨_, rfl⟩
      rw [← hx] at hcell
      have HXk := Lib.hid hx
      clear hx
      have q0 : (k : Int) < (m : Int) := by omega
      by_cases he : x = l
      · subst he
        have hz : z = k := by rw [HZ.out]; exact HF.out k (by rw [← HM.out]; exact hlt) HL.out HXk.out.symm
        have hbeq := HSame.out
        go_wp2
        go_ret
        exact ⟨by first | rfl | (rw [hz]; rfl), rfl⟩
      · have hbeq := HNot.out x (fun e => he e.symm)
        go_wp2
        go_round
        case rel =>
          refine ⟨k + 1, by go_num, by omega, fun j hj => ?_⟩
          rcases Nat.lt_or_ge j k with h | h
          · exact HL.out j h
          · obtain rfl : j = k := by omega
            rw [← HXk.out]
            exact he
        case measure => simp [intOf]; omega
    · have hz : z = -1 := by
        rw [HZ.out]
        exact HO.out (fun j hj => HL.out j (by rw [← HM.out] at hj; omega))
      have q0 : ¬ ((k : Int) < (m : Int)) := by omega
      go_wp2
      go_ret
      exact ⟨by first | rfl | (rw [hz]; rfl), rfl⟩
set_option maxHeartbeats 1000000 in
theorem scont_any (a : Option Addr) (c : Nat) (ns : List Bytes) (l : Bytes) (w : World) (hN : NamesAt w a ns) (hn : ns.length ≤ 1000000) :
    Calls Tryz.prog 36 #[.slice a ns.length c, .string (mkS l)] w fun e w' => e = .returned (.bool (decide (0 ≤ idxI ns l))) ∧ w' = w := by
  have HI := Lib.hid (sindex_any a c ns l w hN hn)
  clear hN hn
  generalize idxI ns l = z at *
  go_enter Tryz.func36, Tryz.ntmps36
  go_wp2_with (go_at_call 77; refine HI.out.mono ?_; rintro e w1 ⟨rfl, rfl⟩)
  go_ret
  exact ⟨by first | rfl | (congr 1), rfl⟩
set_option maxHeartbeats 1000000 in
theorem goodP_any (a : Option Addr) (c : Nat) (ns : List Bytes) (w : World) (hN : NamesAt w a ns) (hc : ns.length ≤ c) (hn : ns.length ≤ 1000000) :
    Calls Tryz.prog 19 #[.slice a ns.length c] w fun e w' => e = .returned (.bool (goodF ns)) ∧ w' = w := by
  have HX := Lib.hid hN
  have HY := Lib.hid (good_yes (ns := ns))
  have HO := Lib.hid (fun (i : Nat) (h : i < ns.length) => good_no (ns := ns) h)
  have HL := Lib.hid (good_long (ns := ns))
  obtain ⟨m, hm⟩ : ∃ m, m = ns.length := ⟨_, rfl⟩
  have HM := Lib.hid hm
  obtain ⟨z, hz⟩ : ∃ z, z = goodF ns := ⟨_, rfl⟩
  have HZ := Lib.hid hz
  rw [← hz, ← hm]
  rw [← hm] at hn hc
  clear hz hm hN
  by_cases h6 : 6 < m
  · have hz : z = false := by rw [HZ.out]; exact HL.out (by rw [← HM.out]; exact h6)
    subst hz
    have q : (6 : Int) < (m : Int) := by omega
    go_enter Tryz.func19, Tryz.ntmps19
    go_wp2
    go_ret
    exact ⟨rfl, rfl⟩
  have q : ¬ ((6 : Int) < (m : Int)) := by omega
  go_enter Tryz.func19, Tryz.ntmps19
  go_wp2
  go_loop [10] (fun t => ∃ k : Nat, t = .int .i64 k ∧ k ≤ m ∧ (∀ j, j < k → nameF (ns.getD j []) = true ∧ idxI (ns.take j) (ns.getD j []) < 0)) (fun t => m - (intOf t).toNat)
  case atStart => exact ⟨0, rfl, Nat.zero_le _, (fun j h => by omega)⟩
  case round =>
    obtain ⟨k, rfl, hk, hlow⟩ := hrel
    have HLow := Lib.hid hlow
    clear hlow
    by_cases hlt : k < m
    · obtain ⟨b, o, rfl, hb, hcc⟩ := HX.out.row (by rw [← HM.out]; omega)
      have hcell := hcc k (by rw [← HM.out]; exact hlt)
      clear hcc
      obtain ⟨x, hx⟩ : ∃ x, x = ns.getD k [] := ⟨_, rfl⟩
      rw [← hx] at hcell
      have HXk := Lib.hid hx
      clear hx
      have q0 : (k : Int) < (m : Int) := by omega
      have q1 : (k : Int) ≤ (c : Int) := by omega
      have HC : Hid (∀ c', Calls Tryz.prog 36 #[.slice (some ⟨b, o, none⟩) k c', .string (mkS x)] w fun e w' => e = .returned (.bool (decide (0 ≤ idxI (ns.take k) x))) ∧ w' = w) := Lib.hid (fun c' => by
        have e : (ns.take k).length = k := by rw [List.length_take]; have := HM.out; omega
        have := scont_any (some ⟨b, o, none⟩) c' (ns.take k) x w (HX.out.take k) (by omega)
        rwa [e] at this)
      have HBad : Hid (nameF x = false ∨ 0 ≤ idxI (ns.take k) x → z = false) := Lib.hid (fun h => by
        rw [HZ.out]
        exact HO.out k (by rw [← HM.out]; exact hlt) (by rw [← HXk.out]; exact h))
      have HStep : Hid (nameF x = true → idxI (ns.take k) x < 0 → ∀ j, j < k + 1 → nameF (ns.getD j []) = true ∧ idxI (ns.take j) (ns.getD j []) < 0) := Lib.hid (fun h1 h2 j hj => by
        rcases Nat.lt_or_ge j k with h | h
        · exact HLow.out j h
        · obtain rfl : j = k := by omega
          rw [← HXk.out]
          exact ⟨h1, h2⟩)
      generalize idxI (ns.take k) x = q at HC HBad HStep
      have hnm := fun W => name_any (mkS x) W
      rw [mkS_list] at hnm
      have HNM := Lib.hid hnm
      clear hnm HXk
      cases hf : nameF x with
      | false =>
        rw [hf] at HNM
        have hz := HBad.out (.inl hf)
        subst hz
        go_wp2_with (first | (go_at_call 35; refine (HNM.out _).mono ?_; rintro e w1 ⟨rfl, rfl⟩) | (go_at_call 36; refine (HC.out _).mono ?_; rintro e w2 ⟨rfl, rfl⟩))
        go_ret
        exact ⟨rfl, rfl⟩
      | true =>
        rw [hf] at HNM
        by_cases hq : 0 ≤ q
        · have hz := HBad.out (.inr hq)
          subst hz
          rw [decide_eq_true hq] at HC
          go_wp2_with (first | (go_at_call 35; refine (HNM.out _).mono ?_; rintro e w1 ⟨rfl, rfl⟩) | (go_at_call 36; refine (HC.out _).mono ?_; rintro e w2 ⟨rfl, rfl⟩))
          go_ret
          exact ⟨rfl, rfl⟩
        · rw [decide_eq_false hq] at HC
          go_wp2_with (first | (go_at_call 35; refine (HNM.out _).mono ?_; rintro e w1 ⟨rfl, rfl⟩) | (go_at_call 36; refine (HC.out _).mono ?_; rintro e w2 ⟨rfl, rfl⟩))
          go_round
          case rel => exact ⟨k + 1, by go_num, by omega, HStep.out hf (by omega)⟩
          case measure => simp [intOf]; omega
    · have hz : z = true := by
        rw [HZ.out]
        exact HY.out (by rw [← HM.out]; omega) (fun j hj => HLow.out j (by rw [← HM.out] at hj; omega))
      have q0 : ¬ ((k : Int) < (m : Int)) := by omega
      go_wp2
      go_ret
      exact ⟨by first | rfl | (rw [hz]; rfl), rfl⟩
end Go.Proofs.YtokmehjofboflaaGreatDoor
namespace Go.Proofs.YtokmehjofboflaaGreatDoor
set_option maxRecDepth 100000
open Go.RowKit

/-- what a call does that reads o: it returns or panics -/
def OutR (U : Sup) (xs : List (Int × Int)) (o : Out) (e : Ending) (w' : World) : Prop := (o.2.err = 0 ∧ Good6 U o.2 (xs ++ o.1) e w') ∨ (o.2.err ≠ 0 ∧ Bad6 U o.2 e w')
set_option maxHeartbeats 1000000 in
theorem varQ_any (U : Sup) (hU : U.Ok) (s : St) (xs : List (Int × Int)) (w : World) (h : RAt U w s xs) (hx : xs.length ≤ 100000) (hn : nameF (U.env.word s) = true) (op : Int) :
    Calls Tryz.prog 129 #[.pointer (some ⟨U.W0.heap.size, 0, none⟩), .int .i64 op] w (OutR U xs (U.env.var op s)) := by
  have HW := Lib.hid (fun W (hb : Below w.heap.size w W) => wordQ_any U hU s xs W (h.far hb))
  have HI := Lib.hid (fun W (hb : Below w.heap.size w W) => sindex_any U.na U.nc U.ns (U.env.word s) W (hU.names.below (h.far hb).bel rfl) (by have := good_few hU.good; omega))
  have HC := Lib.hid (fun W (hb : Below w.heap.size w W) => (h.far hb).c2)
  have hi : s.i < U.ts.length := word_in6 (x := U.env.word s) (by intro e; rw [e] at hn; cases hn) rfl
  have HF := Lib.hid (fun W (hb : Below w.heap.size w W) => fail_bad6 U hU s xs W (h.far hb) 5)
  have HT := Lib.hid (fun W (hb : Below w.heap.size w W) (a : Int) => takeQ_any U s xs W (h.far hb) hi hx op a)
  have hc := h.c2
  have hg := h.good
  have hv : U.env.var op s = match idxN U.ns (U.env.word s) with
    | none => ([], U.env.fail s 5)
    | some x => ([(op, (x : Int))], s.adv) := by
    show (if nameF (U.env.word s) = false then ([], U.env.fail s 4) else _) = _
    rw [if_neg (by rw [hn]; decide)]
    rfl
  rw [hv]
  have hidx := idx_cases U.ns (U.env.word s)
  have hbr := Below.refl w.heap.size w
  have hf5 := fail_err U.env s (e := 5) (by decide)
  unfold Good6 Bad6 at *
  clear h hU hn hi hv hx
  generalize hpb : U.W0.heap.size = pb at *
  unfold OutR Good6 Bad6
  rw [hpb]
  rcases hidx with ⟨h1, h2⟩ | ⟨x, h1, h2⟩
  · rw [h1]
    rw [h2] at HI
    clear HT h1 h2
    generalize U.ns.length = m at *
    generalize mkS (U.env.word s) = Y at *
    generalize U.env.fail s 5 = s5 at *
    go_enter Tryz.func129, Tryz.ntmps129
    go_wp2
    go_region_held3 (fun w' => w'.cell? ⟨pb, 2, none⟩ = some (.slice U.na m U.nc) ∧ Below w.heap.size w w') (first | exact ⟨HC.out _ hb1, hb1⟩ | exact ⟨hc, belDraws hbr _⟩ | exact ⟨hc, hbr⟩) ((first | (go_at_call 84; refine (HW.out _ (by first | exact hbr | exact belDraws hbr _)).mono ?_; rintro e w1 ⟨rfl, hb10⟩; have hb1 := (show Below w.heap.size w w1 from by first | exact hb10 | exact (belDraws hbr _).trans hb10)) | (go_at_call 77; refine (HI.out _ (by assumption)).mono ?_; rintro e w2 ⟨rfl, rfl⟩)))
    go_wp2_with (go_at_call 42; refine (HF.out _ (by assumption)).mono ?_; rintro e w3 ⟨rfl, h3⟩)
    exact ⟨rfl, .inr ⟨hf5, rfl, h3⟩⟩
  · rw [h1]
    rw [h2] at HI
    have q0 : ¬ ((x : Int) < 0) := by omega
    clear HF h1 h2 hf5
    generalize U.ns.length = m at *
    generalize mkS (U.env.word s) = Y at *
    go_enter Tryz.func129, Tryz.ntmps129
    go_wp2
    go_region_held3 (fun w' => w'.cell? ⟨pb, 2, none⟩ = some (.slice U.na m U.nc) ∧ Below w.heap.size w w') (first | exact ⟨HC.out _ hb1, hb1⟩ | exact ⟨hc, belDraws hbr _⟩ | exact ⟨hc, hbr⟩) ((first | (go_at_call 84; refine (HW.out _ (by first | exact hbr | exact belDraws hbr _)).mono ?_; rintro e w1 ⟨rfl, hb10⟩; have hb1 := (show Below w.heap.size w w1 from by first | exact hb10 | exact (belDraws hbr _).trans hb10)) | (go_at_call 77; refine (HI.out _ (by assumption)).mono ?_; rintro e w2 ⟨rfl, rfl⟩)))
    go_wp2_with (go_at_call 117; refine (HT.out _ (by assumption) _).mono ?_; rintro e w3 ⟨rfl, h3⟩)
    go_end0
    exact .inl ⟨hg, rfl, h3⟩
end Go.Proofs.YtokmehjofboflaaGreatDoor
