/- The reader's recursion: binary of the specification of layer 6, and all of it. -/
import Derived.Test.YtdbahiepihkagaaGreatDoorCur
namespace Go.Proofs.YtdbahiepihkagaaGreatDoor
set_option maxRecDepth 100000
open Go.RowKit

theorem boxed6 (w : World) (C : Array Value) (t : TypeId) (i : Nat) : (w.alloc (.cells C t)).cell? ⟨w.heap.size, i, none⟩ = C[i]? := World.cell?_alloc_new w C t i
theorem ret_slice6 {a : Option Addr} {n m c : Nat} (h : n = m) : Ending.returned (.slice a n c) = .returned (.slice a m c) := by rw [h]
theorem Step6.far {U : Sur} {w w' : World} {s : St} (h : PAt U w s) (hb : Below w.heap.size w w') : Step6 U w w' s := ⟨h.far hb, hb.os, hb.tape, hb.output, hb.size, fun k hk _ => hb.block k hk⟩
theorem oper6 {U : Sur} {w : World} {s : St} (h : PAt U w s) (op : Int) (k : Nat) (C : Array Value) (vs : Nat → Value) (xss : List (List (Int × Int))) (hk : xss.length = k) (hC : ∀ i, i < k → C[i]? = some (vs i)) (hO : ∀ i, i < k → OwnT (U.W.heap.size + 1) w (vs i) (xss.getD i [])) (hs : xss.flatten.length ≤ 100000) (hk9 : k ≤ 9) :
    Calls Tryz.prog 78 #[.int .i64 op, .slice (some ⟨w.heap.size, 0, none⟩) k k] (w.alloc (.cells C 25)) (Out6 U w ((op, 0) :: xss.flatten, s)) := by
  have hb := below_alloc6 w (.cells C 25)
  have hlt : w.heap.size < (w.alloc (.cells C 25)).heap.size := by simp
  refine (operR_any op (U.W.heap.size + 1) w.heap.size k k vs xss _ hk hlt (fun i hi => (boxed6 w C _ i).trans (hC i hi)) (fun i hi => (hO i hi).far hb) hs hk9).mono ?_
  rintro e w' ⟨a, c, rfl, hown, hbel⟩
  have hbel2 : Below w.heap.size w w' := hb.trans (hbel.mono hb.size)
  exact ⟨a, c, rfl, hown.base (by have := h.lt; omega), Step6.far h hbel2⟩
theorem oper1 {U : Sur} {w : World} {s : St} (h : PAt U w s) (op : Int) {v1 : Value} {x1 : List (Int × Int)} (h1 : OwnT (U.W.heap.size + 1) w v1 x1) (hs : x1.length ≤ 100000) :
    Calls Tryz.prog 78 #[.int .i64 op, .slice (some ⟨w.heap.size, 0, none⟩) 1 1] (w.alloc (.cells #[v1] 25)) (Out6 U w ((op, 0) :: x1, s)) := by
  have := oper6 h op 1 #[v1] (fun _ => v1) [x1] rfl (fun i hi => by obtain rfl : i = 0 := by omega
                                                                    rfl) (fun i hi => by obtain rfl : i = 0 := by omega
                                                                                         exact h1) (by simpa using hs) (by omega)
  simpa using this
theorem oper2 {U : Sur} {w : World} {s : St} (h : PAt U w s) (op : Int) {v1 v2 : Value} {x1 x2 : List (Int × Int)} (h1 : OwnT (U.W.heap.size + 1) w v1 x1) (h2 : OwnT (U.W.heap.size + 1) w v2 x2) (hs : x1.length + x2.length ≤ 100000) :
    Calls Tryz.prog 78 #[.int .i64 op, .slice (some ⟨w.heap.size, 0, none⟩) 2 2] (w.alloc (.cells #[v1, v2] 25)) (Out6 U w ((op, 0) :: (x1 ++ x2), s)) := by
  have := oper6 h op 2 #[v1, v2] (fun i => if i = 0 then v1 else v2) [x1, x2] rfl (fun i hi => by
    rcases (by omega : i = 0 ∨ i = 1) with rfl | rfl <;> rfl) (fun i hi => by
    rcases (by omega : i = 0 ∨ i = 1) with rfl | rfl
    · exact h1
    · exact h2) (by simpa using hs) (by omega)
  simpa using this
theorem oper3 {U : Sur} {w : World} {s : St} (h : PAt U w s) (op : Int) {v1 v2 v3 : Value} {x1 x2 x3 : List (Int × Int)} (h1 : OwnT (U.W.heap.size + 1) w v1 x1) (h2 : OwnT (U.W.heap.size + 1) w v2 x2) (h3 : OwnT (U.W.heap.size + 1) w v3 x3) (hs : x1.length + (x2.length + x3.length) ≤ 100000) :
    Calls Tryz.prog 78 #[.int .i64 op, .slice (some ⟨w.heap.size, 0, none⟩) 3 3] (w.alloc (.cells #[v1, v2, v3] 25)) (Out6 U w ((op, 0) :: (x1 ++ (x2 ++ x3)), s)) := by
  have := oper6 h op 3 #[v1, v2, v3] (fun i => if i = 0 then v1 else if i = 1 then v2 else v3) [x1, x2, x3] rfl (fun i hi => by
    rcases (by omega : i = 0 ∨ i = 1 ∨ i = 2) with rfl | rfl | rfl <;> rfl) (fun i hi => by
    rcases (by omega : i = 0 ∨ i = 1 ∨ i = 2) with rfl | rfl | rfl
    · exact h1
    · exact h2
    · exact h3) (by simpa using hs) (by omega)
  simpa using this

theorem takeK (U : Sur) (hU : U.Ok) (x : Bytes) (X : ByteArray) (hX : mkS x = X) (hx : x ≠ []) (s : St) (W : World) (h : PAt U W s) :
    Calls Tryz.prog 76 #[.pointer (some ⟨U.W.heap.size, 0, none⟩), .string X] W fun e w' => e = .returned (.bool (decide (U.env.word s = x))) ∧ Step6 U W w' (if U.env.word s = x then s.adv else s) := by
  subst hX
  exact takeP_any U hU s W h x hx
theorem wantK (U : Sur) (hU : U.Ok) (x : Bytes) (X : ByteArray) (hX : mkS x = X) (hx : x ≠ []) (s : St) (W : World) (h : PAt U W s) :
    Calls Tryz.prog 77 #[.pointer (some ⟨U.W.heap.size, 0, none⟩), .string X] W fun e w' => e = .returned (.tuple #[]) ∧ Step6 U W w' (U.env.want x s) := by
  subst hX
  exact wantP_any U hU s W h x hx
/-- what a call does for a goal -/
def CallsG (U : Sur) (n : Nat) (g : Go6) : Prop := ∀ (s : St) (w : World) (o : Out), PAt U w s → U.env.run n g s = some o → match g with
  | .choice => Calls Tryz.prog 38 #[.pointer (some ⟨U.W.heap.size, 0, none⟩)] w (Out6 U w o)
  | .bin lv => Calls Tryz.prog 75 #[.pointer (some ⟨U.W.heap.size, 0, none⟩), .int .i64 (lv : Int)] w (Out6 U w o)
  | .unary => Calls Tryz.prog 140 #[.pointer (some ⟨U.W.heap.size, 0, none⟩)] w (Out6 U w o)
  | .prim => Calls Tryz.prog 175 #[.pointer (some ⟨U.W.heap.size, 0, none⟩)] w (Out6 U w o)
  | .more _ _ => True
/-- lists are short -/
theorem run_short {U : Sur} (hU : U.Ok) {n : Nat} {g : Go6} {s : St} {o : Out} (h : U.env.run n g s = some o) (hs : s.i ≤ U.ts.length) (hg : g.base ≤ s.i) : o.1.length ≤ 4096 ∧ o.1.length ≤ o.2.i := by
  have f := run_fine U.env n g s o h
  have h1 := f.len
  have h2 := f.later.top (by rw [show U.env.ts.length = U.ts.length from env_len _ _ _]; exact hs)
  rw [show U.env.ts.length = U.ts.length from env_len _ _ _] at h2
  have := hU.few
  omega
set_option maxHeartbeats 2000000 in
theorem choiceP_any (U : Sur) (hU : U.Ok) (n : Nat) (hB : CallsG U n (.bin 2)) (hC : CallsG U n .choice) : CallsG U (n + 1) .choice := by
  intro s w o h hr
  unfold Env.run at hr
  have HT := Lib.hid (fun W s' (h : PAt U W s') => takeP_any U hU s' W h [63] (by simp))
  have HWt := Lib.hid (fun W s' (h : PAt U W s') => wantP_any U hU s' W h [58] (by simp))
  cases h1 : U.env.run n (.bin 2) s with
  | none => rw [h1] at hr; cases hr
  | some c =>
    rw [h1, Option.bind_some] at hr
    have HBn := Lib.hid (hB s w c h h1)
    have hl1 := run_short hU h1 h.low (Nat.zero_le _)
    by_cases hq : U.env.word c.2 = [63]
    · rw [if_pos hq] at hr
      cases h2 : U.env.run n .choice c.2.adv with
      | none => rw [h2] at hr; cases hr
      | some a =>
        rw [h2, Option.bind_some] at hr
        cases h3 : U.env.run n .choice (U.env.want [58] a.2) with
        | none => rw [h3] at hr; cases hr
        | some b =>
          rw [h3, Option.bind_some] at hr
          injection hr with hr
          subst hr
          have HQ := Lib.hid hq
          have HA := Lib.hid (fun W (h : PAt U W c.2.adv) => hC _ W a h h2)
          have HZ := Lib.hid (fun W (h : PAt U W (U.env.want [58] a.2)) => hC _ W b h h3)
          have f0 := (take_in (U := U) (by simp) hq).2
          have f1 := run_short hU h2 (by show c.2.i + 1 ≤ _; omega) (Nat.zero_le _)
          have tl := (run_fine U.env _ _ _ _ h2).later.top (by rw [show U.env.ts.length = U.ts.length from env_len _ _ _]; show c.2.i + 1 ≤ _; omega)
          rw [show U.env.ts.length = U.ts.length from env_len _ _ _] at tl
          have tw := (Later.want (V := U.env) (x := 58) (l := []) a.2).top (by rw [show U.env.ts.length = U.ts.length from env_len _ _ _]; exact tl)
          rw [show U.env.ts.length = U.ts.length from env_len _ _ _] at tw
          have f2 := run_short hU h3 tw (Nat.zero_le _)
          have HSZ : Hid (c.1.length + (a.1.length + b.1.length) ≤ 100000) := Lib.hid (by omega)
          have HOp := Lib.hid (fun (W : World) (s : St) (h : PAt U W s) => @oper3 U W s h 43)
          dsimp only
          clear h hU hB hC h1 hl1 h2 h3 hq f0 f1 f2 tl tw
          go_enter Tryz.func38, Tryz.ntmps38
          go_wp2_with (first
            | (go_at_call 75; refine HBn.out.mono ?_; rintro e w1 ⟨a1, c1, rfl, O1, S1⟩)
            | (go_at_call 76; have HT1 := HT.out _ _ S1.at_; rw [if_pos HQ.out, decide_eq_true HQ.out] at HT1; refine HT1.mono ?_; rintro e w2 ⟨rfl, S2⟩)
            | (go_at_call 38; first | ((with_reducible refine (HA.out _ S2.at_).mono ?_); rintro e w3 ⟨a3, c3, rfl, O3, S3⟩) | ((with_reducible refine (HZ.out _ S4.at_).mono ?_); rintro e w5 ⟨a5, c5, rfl, O5, S5⟩))
            | (go_at_call 77; refine (HWt.out _ _ S3.at_).mono ?_; rintro e w4 ⟨rfl, S4⟩)
            | (go_at_call 78; refine (HOp.out _ _ S5.at_ ((((O1.step S2).step S3).step S4).step S5) ((O3.step S4).step S5) O5 HSZ.out).mono ?_; rintro e w6 ⟨a6, c6, rfl, O6, S6⟩))
          go_ret
          exact ⟨a6, c6, ret_slice6 (by simp), O6, ((((S1.trans S2).trans S3).trans S4).trans S5).trans S6⟩
    · rw [if_neg hq] at hr
      injection hr with hr
      subst hr
      have HQ := Lib.hid hq
      dsimp only
      clear h hU hB hC h1 hl1
      go_enter Tryz.func38, Tryz.ntmps38
      go_wp2_with (first | (go_at_call 75; refine HBn.out.mono ?_; rintro e w1 ⟨a1, c1, rfl, O1, S1⟩) | (go_at_call 76; have HT1 := HT.out _ _ S1.at_; rw [if_neg HQ.out, decide_eq_false HQ.out] at HT1; refine HT1.mono ?_; rintro e w2 ⟨rfl, S2⟩))
      go_ret
      exact ⟨_, _, rfl, O1.step S2, S1.trans S2⟩
set_option maxHeartbeats 2000000 in
theorem unaryP_any (U : Sur) (hU : U.Ok) (n : Nat) (hu : CallsG U n .unary) (hp : CallsG U n .prim) : CallsG U (n + 1) .unary := by
  intro s w o h hr
  unfold Env.run at hr
  have HT := Lib.hid (fun W s' (h : PAt U W s') => takeK U hU [45] ⟨#[45]⟩ rfl (by simp) s' W h)
  have HN := Lib.hid (fun W s' (h : PAt U W s') => takeK U hU [33] ⟨#[33]⟩ rfl (by simp) s' W h)
  have HP := Lib.hid h
  dsimp only
  by_cases q1 : U.env.word s = [45]
  · rw [if_pos q1] at hr
    cases h1 : U.env.run n .unary s.adv with
    | none => rw [h1] at hr; cases hr
    | some x =>
      rw [h1, Option.bind_some] at hr
      injection hr with hr
      subst hr
      have HQ := Lib.hid q1
      have HA := Lib.hid (fun W (h : PAt U W s.adv) => hu _ W x h h1)
      have f0 := (take_in (U := U) (by simp) q1).2
      have f1 := run_short hU h1 (by show s.i + 1 ≤ _; omega) (Nat.zero_le _)
      have HSZ : Hid (x.1.length ≤ 100000) := Lib.hid (by omega)
      have HOp := Lib.hid (fun (W : World) (s : St) (h : PAt U W s) => @oper1 U W s h 18)
      clear h hU hu hp h1 q1 f0 f1 HN
      go_enter Tryz.func140, Tryz.ntmps140
      go_wp2_with (first
        | (go_at_call 76; have HT1 := HT.out _ _ HP.out; rw [if_pos HQ.out, decide_eq_true HQ.out] at HT1; refine HT1.mono ?_; rintro e w2 ⟨rfl, S2⟩)
        | (go_at_call 140; refine (HA.out _ S2.at_).mono ?_; rintro e w3 ⟨a3, c3, rfl, O3, S3⟩)
        | (go_at_call 78; refine (HOp.out _ _ S3.at_ O3 HSZ.out).mono ?_; rintro e w6 ⟨a6, c6, rfl, O6, S6⟩))
      go_ret
      exact ⟨a6, c6, ret_slice6 (by simp), O6, (S2.trans S3).trans S6⟩
  rw [if_neg q1] at hr
  by_cases q2 : U.env.word s = [33]
  · rw [if_pos q2] at hr
    cases h1 : U.env.run n .unary s.adv with
    | none => rw [h1] at hr; cases hr
    | some x =>
      rw [h1, Option.bind_some] at hr
      injection hr with hr
      subst hr
      have HQ1 := Lib.hid q1
      have HQ2 := Lib.hid q2
      have HA := Lib.hid (fun W (h : PAt U W s.adv) => hu _ W x h h1)
      have f0 := (take_in (U := U) (by simp) q2).2
      have f1 := run_short hU h1 (by show s.i + 1 ≤ _; omega) (Nat.zero_le _)
      have HSZ : Hid (x.1.length ≤ 100000) := Lib.hid (by omega)
      have HOp := Lib.hid (fun (W : World) (s : St) (h : PAt U W s) => @oper1 U W s h 19)
      clear h hU hu hp h1 q1 q2 f0 f1
      go_enter Tryz.func140, Tryz.ntmps140
      go_wp2_with (first
        | (go_at_call 76; first
            | (have HT1 := HT.out _ _ HP.out; rw [if_neg HQ1.out, decide_eq_false HQ1.out] at HT1; (with_reducible refine HT1.mono ?_); rintro e w1 ⟨rfl, S1⟩)
            | (have HT2 := HN.out _ _ S1.at_; rw [if_pos HQ2.out, decide_eq_true HQ2.out] at HT2; refine HT2.mono ?_; rintro e w2 ⟨rfl, S2⟩))
        | (go_at_call 140; refine (HA.out _ S2.at_).mono ?_; rintro e w3 ⟨a3, c3, rfl, O3, S3⟩)
        | (go_at_call 78; refine (HOp.out _ _ S3.at_ O3 HSZ.out).mono ?_; rintro e w6 ⟨a6, c6, rfl, O6, S6⟩))
      go_ret
      exact ⟨a6, c6, ret_slice6 (by simp), O6, ((S1.trans S2).trans S3).trans S6⟩
  rw [if_neg q2] at hr
  have HQ1 := Lib.hid q1
  have HQ2 := Lib.hid q2
  have HA := Lib.hid (fun W (h : PAt U W s) => hp _ W o h hr)
  clear h hU hu hp hr q1 q2
  go_enter Tryz.func140, Tryz.ntmps140
  go_wp2_with (first
    | (go_at_call 76; first
        | (have HT1 := HT.out _ _ HP.out; rw [if_neg HQ1.out, decide_eq_false HQ1.out] at HT1; (with_reducible refine HT1.mono ?_); rintro e w1 ⟨rfl, S1⟩)
        | (have HT2 := HN.out _ _ S1.at_; rw [if_neg HQ2.out, decide_eq_false HQ2.out] at HT2; refine HT2.mono ?_; rintro e w2 ⟨rfl, S2⟩))
    | (go_at_call 175; refine (HA.out _ S2.at_).mono ?_; rintro e w3 ⟨a3, c3, rfl, O3, S3⟩))
  go_ret
  exact ⟨a3, c3, rfl, O3, (S1.trans S2).trans S3⟩
end Go.Proofs.YtdbahiepihkagaaGreatDoor
namespace Go.Proofs.YtdbahiepihkagaaGreatDoor
set_option maxRecDepth 100000
open Go.RowKit

theorem look_pos {T : List (Bytes × Int)} (hT : T.all (fun x => decide (0 < x.2)) = true) {l : Bytes} (h : lookW T l ≠ 0) : 0 < lookW T l := by
  unfold lookW at h ⊢
  cases hf : T.find? fun x => x.1 == l with
  | none => rw [hf] at h; exact absurd rfl h
  | some x =>
    rw [List.all_eq_true] at hT
    have := hT x (List.mem_of_find?_eq_some hf)
    simpa using this
theorem fact_pos {l : Bytes} (h : factF l ≠ 0) : 0 < factF l := look_pos (by decide) h
theorem agg_pos {l : Bytes} (h : aggW l ≠ 0) : 0 < aggW l := look_pos (by decide) h
theorem field_pos {l : Bytes} (h : fieldF l ≠ 0) : 0 < fieldF l := look_pos (by decide) h
/-- one term, behind a word that is passed -/
theorem out_lit {U : Sur} {w w1 : World} {s : St} (h : Step6 U w w1 s) (hi : s.i < U.ts.length) (a b : Int) :
    Out6 U w ([(a, b)], s.adv) (.returned (.slice (some ⟨w1.heap.size, 0, none⟩) 1 1)) ((w1.setCell ⟨U.W.heap.size, 3, none⟩ (.int .i64 ((s.i : Int) + 1))).alloc (.cells #[.int .i64 a, .int .i64 b] 55)) :=
  ⟨_, _, rfl, lit6s h.at_ _ _ [(a, b)] #[.int .i64 a, .int .i64 b] 1 rfl rfl (by simp [maxLen]), (h.adv hi).alloc _⟩
theorem out_lit0 {U : Sur} {w w1 : World} {s : St} (h : Step6 U w w1 s) (a b : Int) :
    Out6 U w ([(a, b)], s) (.returned (.slice (some ⟨w1.heap.size, 0, none⟩) 1 1)) (w1.alloc (.cells #[.int .i64 a, .int .i64 b] 55)) :=
  ⟨_, _, rfl, lit6 h.at_ a b, h.alloc _⟩
theorem Out6.drew {U : Sur} {w w' : World} {o : Out} {e : Ending} (h : Out6 U w o e w') : Out6 U w o e w'.drew := by
  obtain ⟨a, c, he, O, S⟩ := h
  exact ⟨a, c, he, O.drew 1, S.trans (Step6.draws S.at_ 1)⟩
theorem word_here {U : Sur} {s : St} (h : U.env.word s ≠ []) : s.i < U.ts.length := by
  have := (in_of (V := U.env) h).2
  rwa [show U.env.ts.length = U.ts.length from env_len _ _ _] at this
theorem kind_here {U : Sur} {s : St} (h : U.env.kind s = 2) : s.i < U.ts.length := by
  have := (kind_in (V := U.env) (s := s) (by omega)).2
  rwa [show U.env.ts.length = U.ts.length from env_len _ _ _] at this
set_option maxHeartbeats 2000000 in
theorem primP_any (U : Sur) (hU : U.Ok) (n : Nat) (hC : CallsG U n .choice) : CallsG U (n + 1) .prim := by
  intro s w o h hr
  unfold Env.run at hr
  have HWd := Lib.hid (fun W s' (h : PAt U W s') => wordP_any U hU s' W h)
  have HKd := Lib.hid (fun W (h : PAt U W s) => kindP_any U hU s W h)
  have hfc := fun W => factR_any (mkS (U.env.word s)) W
  have hag := fun W => aggwR_any (mkS (U.env.word s)) W
  rw [mkS_list] at hfc hag
  have HFc := Lib.hid hfc
  have HAg := Lib.hid hag
  have HP := Lib.hid h
  have hlow := h.low
  have hfew := hU.few
  clear hfc hag
  dsimp only
  by_cases q1 : U.env.kind s = 2
  · rw [if_pos q1] at hr
    injection hr with hr
    subst hr
    have hi := kind_here q1
    obtain ⟨b, hta, _, _, _, hnum⟩ := h.tok hU hi
    have hv : (tkA U.ts s.i).num = U.env.num s := by
      unfold Env.num
      rw [U.here hi]
      rfl
    rw [hv] at hnum
    rw [q1] at HKd
    have HTok : Hid (∀ W, PAt U W s.adv → W.cell? ⟨b, s.i * 4 + 3, none⟩ = some (.int .i64 (U.env.num s : Int))) := Lib.hid (fun W hW => by
      obtain ⟨b', hb', hcs⟩ := (hU.toks.below hW.bel rfl).row (by omega)
      rw [hta] at hb'
      injection hb' with e
      injection e with e
      subst e
      rw [(hcs.2 s.i hi).2.2.2, hv])
    have q0 : (0 : Int) ≤ (s.i : Int) := by omega
    have q3 : (s.i : Int) < (U.ts.length : Int) := by omega
    have HTa := Lib.hid hta
    clear h hU hC q1 hnum hv hta HFc HAg
    generalize U.env.num s = z at *
    go_enter Tryz.func175, Tryz.ntmps175
    go_wp2_with (first
      | (go_at_call 142; refine (HWd.out _ _ HP.out).mono ?_; rintro e w1 ⟨rfl, hm⟩; have S1 := Step6.quiet HP.out hm; clear hm)
      | (go_at_call 193; refine (HKd.out _ S1.at_).mono ?_; rintro e w2 ⟨rfl, hm⟩; have S2 := S1.trans (Step6.quiet S1.at_ hm); clear hm; have k3 := S2.at_.c3; have kf := S2.at_.f3))
    have S3 := S2.adv hi
    have HS3 := Lib.hid S3
    have r2 := S3.at_.c2
    have r3 := S3.at_.c3
    have rt := HTok.out _ S3.at_
    rw [HTa.out] at r2
    have e1 : ((s.adv.i : Nat) : Int) = (s.i : Int) + 1 := by simp [St.adv]
    rw [e1] at r3
    clear k3 kf
    go_region
    go_wp2
    go_ret
    exact (out_lit S2 hi 1 (z : Int)).drew
  rw [if_neg q1] at hr
  have hk : (((U.env.kind s : Nat) : Int) == 2) = false := by simp; omega
  by_cases q2 : factF (U.env.word s) ≠ 0
  · rw [if_pos q2] at hr
    injection hr with hr
    subst hr
    have hi := word_here (word_fact q2)
    have hp := fact_pos q2
    clear h hU hC q1 q2 HAg
    generalize factF (U.env.word s) = f at *
    generalize U.env.kind s = kd at *
    go_enter Tryz.func175, Tryz.ntmps175
    go_wp2_with (first
      | (go_at_call 142; refine (HWd.out _ _ HP.out).mono ?_; rintro e w1 ⟨rfl, hm⟩; have S1 := Step6.quiet HP.out hm; clear hm)
      | (go_at_call 193; refine (HKd.out _ S1.at_).mono ?_; rintro e w2 ⟨rfl, hm⟩; have S2 := S1.trans (Step6.quiet S1.at_ hm); clear hm; have k3 := S2.at_.c3; have kf := S2.at_.f3)
      | (go_at_call 194; refine (HFc.out _).mono ?_; rintro e w3 ⟨rfl, rfl⟩))
    go_ret
    exact out_lit S2 hi f 0
  have hz2 : factF (U.env.word s) = 0 := by omega
  rw [if_neg q2] at hr
  rw [hz2] at HFc
  have HT40 := Lib.hid (fun W (h : PAt U W s) => takeK U hU [40] ⟨#[40]⟩ rfl (by simp) s W h)
  have HW40 := Lib.hid (fun W (h : PAt U W s.adv) => wantK U hU [40] ⟨#[40]⟩ rfl (by simp) s.adv W h)
  have HW41 := Lib.hid (fun W s' (h : PAt U W s') => wantK U hU [41] ⟨#[41]⟩ rfl (by simp) s' W h)
  by_cases q3 : aggW (U.env.word s) ≠ 0
  · rw [if_pos q3] at hr
    cases h1 : U.env.run n .choice (U.env.want [40] s.adv) with
    | none => rw [h1] at hr; cases hr
    | some x =>
      rw [h1, Option.bind_some] at hr
      injection hr with hr
      subst hr
      have hi := word_here (word_agg q3)
      have hp := agg_pos q3
      have tl := (Later.want (V := U.env) (x := 40) (l := []) s.adv).top (by rw [show U.env.ts.length = U.ts.length from env_len _ _ _]; exact hi)
      rw [show U.env.ts.length = U.ts.length from env_len _ _ _] at tl
      have HSZ : Hid (x.1.length ≤ 100000) := Lib.hid (by have := run_short hU h1 tl (Nat.zero_le _); omega)
      have HA := Lib.hid (fun W (h : PAt U W (U.env.want [40] s.adv)) => hC _ W x h h1)
      have HOp := Lib.hid (fun (W : World) (s : St) (h : PAt U W s) (op : Int) => @oper1 U W s h op)
      clear h hU hC q1 q2 q3 h1 tl HT40
      generalize aggW (U.env.word s) = f at *
      generalize U.env.kind s = kd at *
      go_enter Tryz.func175, Tryz.ntmps175
      go_wp2_with (first
        | (go_at_call 142; refine (HWd.out _ _ HP.out).mono ?_; rintro e w1 ⟨rfl, hm⟩; have S1 := Step6.quiet HP.out hm; clear hm)
        | (go_at_call 193; refine (HKd.out _ S1.at_).mono ?_; rintro e w2 ⟨rfl, hm⟩; have S2 := S1.trans (Step6.quiet S1.at_ hm); clear hm; have k3 := S2.at_.c3; have kf := S2.at_.f3)
        | (go_at_call 194; refine (HFc.out _).mono ?_; rintro e w3 ⟨rfl, rfl⟩)
        | (go_at_call 195; refine (HAg.out _).mono ?_; rintro e w3 ⟨rfl, rfl⟩)
        | (go_at_call 77; first
            | ((with_reducible refine (HW40.out _ (S2.adv hi).at_).mono ?_); rintro e w4 ⟨rfl, S4⟩)
            | ((with_reducible refine (HW41.out _ _ S5.at_).mono ?_); rintro e w6 ⟨rfl, S6⟩))
        | (go_at_call 38; refine (HA.out _ S4.at_).mono ?_; rintro e w5 ⟨a5, c5, rfl, O5, S5⟩)
        | (go_at_call 78; refine (HOp.out _ _ S6.at_ _ (O5.step S6) HSZ.out).mono ?_; rintro e w7 ⟨a7, c7, rfl, O7, S7⟩))
      go_ret
      exact ⟨a7, c7, ret_slice6 (by simp), O7, (((((S2.adv hi).trans S4).trans S5).trans S6).trans S7)⟩
  have hz3 : aggW (U.env.word s) = 0 := by omega
  rw [if_neg q3] at hr
  rw [hz3] at HAg
  by_cases q4 : U.env.word s = [40]
  · rw [if_pos q4] at hr
    cases h1 : U.env.run n .choice s.adv with
    | none => rw [h1] at hr; cases hr
    | some x =>
      rw [h1, Option.bind_some] at hr
      injection hr with hr
      subst hr
      have HA := Lib.hid (fun W (h : PAt U W s.adv) => hC _ W x h h1)
      have HQ := Lib.hid q4
      clear h hU hC q1 q2 q3 q4 h1 HW40 hz2 hz3
      generalize U.env.kind s = kd at *
      go_enter Tryz.func175, Tryz.ntmps175
      go_wp2_with (first
        | (go_at_call 142; refine (HWd.out _ _ HP.out).mono ?_; rintro e w1 ⟨rfl, hm⟩; have S1 := Step6.quiet HP.out hm; clear hm)
        | (go_at_call 193; refine (HKd.out _ S1.at_).mono ?_; rintro e w2 ⟨rfl, hm⟩; have S2 := S1.trans (Step6.quiet S1.at_ hm); clear hm; have k3 := S2.at_.c3; have kf := S2.at_.f3)
        | (go_at_call 194; refine (HFc.out _).mono ?_; rintro e w3 ⟨rfl, rfl⟩)
        | (go_at_call 195; refine (HAg.out _).mono ?_; rintro e w3 ⟨rfl, rfl⟩)
        | (go_at_call 76; have HT1 := HT40.out _ S2.at_; rw [if_pos HQ.out, decide_eq_true HQ.out] at HT1; refine HT1.mono ?_; rintro e w4 ⟨rfl, S4⟩)
        | (go_at_call 38; refine (HA.out _ S4.at_).mono ?_; rintro e w5 ⟨a5, c5, rfl, O5, S5⟩)
        | (go_at_call 77; refine (HW41.out _ _ S5.at_).mono ?_; rintro e w6 ⟨rfl, S6⟩))
      go_ret
      exact ⟨a5, c5, rfl, O5.step S6, ((S2.trans S4).trans S5).trans S6⟩
  rw [if_neg q4] at hr
  have HQ4 := Lib.hid q4
  have HT113 := Lib.hid (fun W (h : PAt U W s) => takeK U hU [113] ⟨#[113]⟩ rfl (by simp) s W h)
  have HT46 := Lib.hid (fun W (h : PAt U W s.adv) => takeK U hU [46] ⟨#[46]⟩ rfl (by simp) s.adv W h)
  have HV := Lib.hid (fun W s' (h : PAt U W s') (op : Int) => varP_any U hU s' W h op)
  by_cases q5 : U.env.word s = [113]
  case neg =>
    rw [if_neg q5] at hr
    injection hr with hr
    subst hr
    have HQ5 := Lib.hid q5
    clear h hU hC q1 q2 q3 q4 q5 HW40 HW41 hz2 hz3 HT46
    generalize U.env.kind s = kd at *
    go_enter Tryz.func175, Tryz.ntmps175
    go_wp2_with (first
      | (go_at_call 142; refine (HWd.out _ _ HP.out).mono ?_; rintro e w1 ⟨rfl, hm⟩; have S1 := Step6.quiet HP.out hm; clear hm)
      | (go_at_call 193; refine (HKd.out _ S1.at_).mono ?_; rintro e w2 ⟨rfl, hm⟩; have S2 := S1.trans (Step6.quiet S1.at_ hm); clear hm; have k3 := S2.at_.c3; have kf := S2.at_.f3)
      | (go_at_call 194; refine (HFc.out _).mono ?_; rintro e w3 ⟨rfl, rfl⟩)
      | (go_at_call 195; refine (HAg.out _).mono ?_; rintro e w3 ⟨rfl, rfl⟩)
      | (go_at_call 76; first
            | (have HT1 := HT40.out _ S2.at_; rw [if_neg HQ4.out, decide_eq_false HQ4.out] at HT1; (with_reducible refine HT1.mono ?_); rintro e w4 ⟨rfl, S4⟩)
            | (have HT2 := HT113.out _ S4.at_; rw [if_neg HQ5.out, decide_eq_false HQ5.out] at HT2; (with_reducible refine HT2.mono ?_); rintro e w5 ⟨rfl, S5⟩))
      | (go_at_call 196; refine (HV.out _ _ S5.at_ _).mono ?_; rintro e w6 ⟨a6, c6, rfl, O6, S6⟩))
    go_ret
    exact ⟨a6, c6, rfl, O6, ((S2.trans S4).trans S5).trans S6⟩
  rw [if_pos q5] at hr
  injection hr with hr
  subst hr
  unfold Env.near
  have HQ5 := Lib.hid q5
  by_cases q6 : U.env.word s.adv = [46]
  case neg =>
    rw [if_neg q6]
    have HQ6 := Lib.hid q6
    clear h hU hC q1 q2 q3 q4 q5 q6 HW40 HW41 hz2 hz3 HV
    generalize U.env.kind s = kd at *
    go_enter Tryz.func175, Tryz.ntmps175
    go_wp2_with (first
      | (go_at_call 142; refine (HWd.out _ _ HP.out).mono ?_; rintro e w1 ⟨rfl, hm⟩; have S1 := Step6.quiet HP.out hm; clear hm)
      | (go_at_call 193; refine (HKd.out _ S1.at_).mono ?_; rintro e w2 ⟨rfl, hm⟩; have S2 := S1.trans (Step6.quiet S1.at_ hm); clear hm; have k3 := S2.at_.c3; have kf := S2.at_.f3)
      | (go_at_call 194; refine (HFc.out _).mono ?_; rintro e w3 ⟨rfl, rfl⟩)
      | (go_at_call 195; refine (HAg.out _).mono ?_; rintro e w3 ⟨rfl, rfl⟩)
      | (go_at_call 76; first
            | (have HT1 := HT40.out _ S2.at_; rw [if_neg HQ4.out, decide_eq_false HQ4.out] at HT1; (with_reducible refine HT1.mono ?_); rintro e w4 ⟨rfl, S4⟩)
            | (have HT2 := HT113.out _ S4.at_; rw [if_pos HQ5.out, decide_eq_true HQ5.out] at HT2; (with_reducible refine HT2.mono ?_); rintro e w5 ⟨rfl, S5⟩)
            | (have HT3 := HT46.out _ S5.at_; rw [if_neg HQ6.out, decide_eq_false HQ6.out] at HT3; (with_reducible refine HT3.mono ?_); rintro e w6 ⟨rfl, S6⟩)))
    go_ret
    exact out_lit0 (((S2.trans S4).trans S5).trans S6) 11 0
  rw [if_pos q6]
  have HQ6 := Lib.hid q6
  have hfd := fun W => fieldR_any (mkS (U.env.word s.adv.adv)) W
  rw [mkS_list] at hfd
  have HFd := Lib.hid hfd
  clear hfd
  by_cases q7 : fieldF (U.env.word s.adv.adv) ≠ 0
  · rw [if_pos q7]
    have hi := word_here (word_field q7)
    have hp := field_pos q7
    clear h hU hC q1 q2 q3 q4 q5 q6 q7 HW40 HW41 hz2 hz3 HV
    generalize fieldF (U.env.word s.adv.adv) = f at *
    generalize U.env.kind s = kd at *
    go_enter Tryz.func175, Tryz.ntmps175
    go_wp2_with (first
      | (go_at_call 142; first | ((with_reducible refine (HWd.out _ _ HP.out).mono ?_); rintro e w1 ⟨rfl, hm⟩; have S1 := Step6.quiet HP.out hm; clear hm) | ((with_reducible refine (HWd.out _ _ S6.at_).mono ?_); rintro e w7 ⟨rfl, hm⟩; have S7 := S6.trans (Step6.quiet S6.at_ hm); clear hm; have k37 := S7.at_.c3; have kf7 := S7.at_.f3))
      | (go_at_call 193; refine (HKd.out _ S1.at_).mono ?_; rintro e w2 ⟨rfl, hm⟩; have S2 := S1.trans (Step6.quiet S1.at_ hm); clear hm; have k3 := S2.at_.c3; have kf := S2.at_.f3)
      | (go_at_call 194; refine (HFc.out _).mono ?_; rintro e w3 ⟨rfl, rfl⟩)
      | (go_at_call 195; refine (HAg.out _).mono ?_; rintro e w3 ⟨rfl, rfl⟩)
      | (go_at_call 197; refine (HFd.out _).mono ?_; rintro e w8 ⟨rfl, rfl⟩)
      | (go_at_call 76; first
            | (have HT1 := HT40.out _ S2.at_; rw [if_neg HQ4.out, decide_eq_false HQ4.out] at HT1; (with_reducible refine HT1.mono ?_); rintro e w4 ⟨rfl, S4⟩)
            | (have HT2 := HT113.out _ S4.at_; rw [if_pos HQ5.out, decide_eq_true HQ5.out] at HT2; (with_reducible refine HT2.mono ?_); rintro e w5 ⟨rfl, S5⟩)
            | (have HT3 := HT46.out _ S5.at_; rw [if_pos HQ6.out, decide_eq_true HQ6.out] at HT3; (with_reducible refine HT3.mono ?_); rintro e w6 ⟨rfl, S6⟩)))
    go_ret
    exact out_lit (((S2.trans S4).trans S5).trans S7) hi f 0
  · have hz7 : fieldF (U.env.word s.adv.adv) = 0 := by omega
    rw [if_neg q7]
    rw [hz7] at HFd
    clear h hU hC q1 q2 q3 q4 q5 q6 q7 HW40 HW41 hz2 hz3 hz7
    generalize U.env.kind s = kd at *
    go_enter Tryz.func175, Tryz.ntmps175
    go_wp2_with (first
      | (go_at_call 142; first | ((with_reducible refine (HWd.out _ _ HP.out).mono ?_); rintro e w1 ⟨rfl, hm⟩; have S1 := Step6.quiet HP.out hm; clear hm) | ((with_reducible refine (HWd.out _ _ S6.at_).mono ?_); rintro e w7 ⟨rfl, hm⟩; have S7 := S6.trans (Step6.quiet S6.at_ hm); clear hm))
      | (go_at_call 193; refine (HKd.out _ S1.at_).mono ?_; rintro e w2 ⟨rfl, hm⟩; have S2 := S1.trans (Step6.quiet S1.at_ hm); clear hm; have k3 := S2.at_.c3; have kf := S2.at_.f3)
      | (go_at_call 194; refine (HFc.out _).mono ?_; rintro e w3 ⟨rfl, rfl⟩)
      | (go_at_call 195; refine (HAg.out _).mono ?_; rintro e w3 ⟨rfl, rfl⟩)
      | (go_at_call 197; refine (HFd.out _).mono ?_; rintro e w8 ⟨rfl, rfl⟩)
      | (go_at_call 76; first
            | (have HT1 := HT40.out _ S2.at_; rw [if_neg HQ4.out, decide_eq_false HQ4.out] at HT1; (with_reducible refine HT1.mono ?_); rintro e w4 ⟨rfl, S4⟩)
            | (have HT2 := HT113.out _ S4.at_; rw [if_pos HQ5.out, decide_eq_true HQ5.out] at HT2; (with_reducible refine HT2.mono ?_); rintro e w5 ⟨rfl, S5⟩)
            | (have HT3 := HT46.out _ S5.at_; rw [if_pos HQ6.out, decide_eq_true HQ6.out] at HT3; (with_reducible refine HT3.mono ?_); rintro e w6 ⟨rfl, S6⟩))
      | (go_at_call 196; refine (HV.out _ _ S7.at_ _).mono ?_; rintro e w9 ⟨a9, c9, rfl, O9, S9⟩))
    go_ret
    exact ⟨a9, c9, rfl, O9, (((S2.trans S4).trans S5).trans S7).trans S9⟩
end Go.Proofs.YtdbahiepihkagaaGreatDoor
namespace Go.Proofs.YtdbahiepihkagaaGreatDoor
set_option maxRecDepth 100000
open Go.RowKit

/-- the reader's place, as the world holds it -/
def at6 (U : Sur) (w : World) : Nat := (intOf ((w.cell? ⟨U.W.heap.size, 3, none⟩).getD (.int .i64 0))).toNat
theorem at6_eq {U : Sur} {w : World} {s : St} (h : PAt U w s) : at6 U w = s.i := by
  unfold at6
  rw [h.c3]
  simp [intOf]
theorem OwnT.adv6 {U : Sur} {w w1 : World} {s : St} {v : Value} {xs : List (Int × Int)} (h : Step6 U w w1 s) (hi : s.i < U.ts.length) (O : OwnT (U.W.heap.size + 1) w1 v xs) : OwnT (U.W.heap.size + 1) (w1.setCell ⟨U.W.heap.size, 3, none⟩ (.int .i64 ((s.i : Int) + 1))) v xs :=
  O.step (⟨(h.adv hi).at_, grown_set6 _ _ _ _⟩ : Step6 U w1 _ s.adv)
set_option maxHeartbeats 2000000 in
theorem binP_any (U : Sur) (hU : U.Ok) (n lv : Nat) (h8 : lv ≤ 7) (hu : CallsG U n .unary) (hb : lv ≤ 6 → ∀ m, m ≤ n → CallsG U m (.bin (lv + 1))) : CallsG U (n + 1) (.bin lv) := by
  intro s w o h hr
  unfold Env.run at hr
  have HP := Lib.hid h
  dsimp only
  by_cases h6 : 6 < lv
  · rw [if_pos h6] at hr
    have HA := Lib.hid (hu s w o h hr)
    have q : (6 : Int) < (lv : Int) := by omega
    clear h hU hb hu hr
    go_enter Tryz.func75, Tryz.ntmps75
    go_wp2_with (go_at_call 140; refine HA.out.mono ?_; rintro e w3 ⟨a3, c3, rfl, O3, S3⟩)
    go_ret
    exact ⟨a3, c3, rfl, O3, S3⟩
  rw [if_neg h6] at hr
  cases h1 : U.env.run n (.bin (lv + 1)) s with
  | none => rw [h1] at hr; cases hr
  | some l =>
    rw [h1, Option.bind_some] at hr
    have HL := Lib.hid (hb (by omega) n (Nat.le_refl _) s w l h h1)
    have HB := Lib.hid (fun m (hm : m ≤ n) (s' : St) (W : World) (o' : Out) (h' : PAt U W s') (hr' : U.env.run m (.bin (lv + 1)) s' = some o') => hb (by omega) m hm s' W o' h' hr')
    have HF := Lib.hid (run_short hU h1 h.low (Nat.zero_le _))
    have HR := Lib.hid hr
    have HU := Lib.hid hU
    have HWd := Lib.hid (fun W s' (h : PAt U W s') => wordP_any U hU s' W h)
    have q : decide ((6 : Int) < (lv : Int)) = false := by simp; omega
    have ei : (((lv + 1 : Nat)) : Int) = (lv : Int) + 1 := by omega
    dsimp only at HL HB
    rw [ei] at HL HB
    have hfew := hU.few
    clear h hU hb hu hr h1
    go_enter Tryz.func75, Tryz.ntmps75
    go_wp2_with (go_at_call 75; refine HL.out.mono ?_; rintro e w1 ⟨a1, c1, rfl, O1, S1⟩)
    go_loopw [5, 6, 7, 8] (fun tl to tt tr wr => ∃ (k : Nat) (x : List (Int × Int)) (s' : St) (a : Option Addr) (c : Nat), tl = .slice a x.length c ∧ k ≤ n ∧ x.length ≤ s'.i ∧ OwnT (U.W.heap.size + 1) wr (.slice a x.length c) x ∧ Step6 U w wr s' ∧ U.env.run k (.more lv x) s' = some o) (fun tl to tt tr wr => U.ts.length - at6 U wr)
    case atStart => exact ⟨n, l.1, l.2, a1, c1, rfl, Nat.le_refl _, HF.out.2, O1, S1, HR.out⟩
    case round =>
      obtain ⟨k, x, s', a, c, rfl, hk, hxl, O, S, hrun⟩ := hrel
      cases k with
      | zero => unfold Env.run at hrun; cases hrun
      | succ k =>
        unfold Env.run at hrun
        have hsg := fun W => signR_any (mkS (U.env.word s')) W
        rw [mkS_list] at hsg
        have HS := Lib.hid S
        have HO := Lib.hid O
        have HN : Hid ((binF (U.env.word s')).1 ≠ 0 → s'.i < U.ts.length) := Lib.hid (fun hne => word_here (by intro e; rw [e] at hne; exact hne (by decide)))
        have HSg := Lib.hid hsg
        clear hsg S O
        by_cases hq : (binF (U.env.word s')).1 = 0 ∨ (binF (U.env.word s')).2 ≠ (lv : Int)
        · rw [if_pos hq] at hrun
          injection hrun with hrun
          subst hrun
          by_cases hq1 : (binF (U.env.word s')).1 = 0
          · rw [hq1] at HSg
            clear HB HL HR HF HN HU hq hq1 ei
            generalize (binF (U.env.word s')).2 = tt at *
            go_wp2_with (first
              | (go_at_call 142; refine (HWd.out _ _ HS.out.at_).mono ?_; rintro e w2 ⟨rfl, hm⟩; have S2 := HS.out.trans (Step6.quiet HS.out.at_ hm); have O2 := HO.out.step (Step6.quiet HS.out.at_ hm); clear hm)
              | (go_at_call 141; refine (HSg.out _).mono ?_; rintro e w3 ⟨rfl, rfl⟩))
            go_ret
            exact ⟨a, c, rfl, O2, S2⟩
          · have hq2 := hq.resolve_left hq1
            have d1 : ((binF (U.env.word s')).1 == 0) = false := by simpa using hq1
            have d2 : ((binF (U.env.word s')).2 == (lv : Int)) = false := by simpa using hq2
            clear HB HL HR HF HN HU hq hq1 hq2 ei
            generalize (binF (U.env.word s')).1 = op at *
            generalize (binF (U.env.word s')).2 = tt at *
            go_wp2_with (first
              | (go_at_call 142; refine (HWd.out _ _ HS.out.at_).mono ?_; rintro e w2 ⟨rfl, hm⟩; have S2 := HS.out.trans (Step6.quiet HS.out.at_ hm); have O2 := HO.out.step (Step6.quiet HS.out.at_ hm); clear hm)
              | (go_at_call 141; refine (HSg.out _).mono ?_; rintro e w3 ⟨rfl, rfl⟩))
            go_ret
            exact ⟨a, c, rfl, O2, S2⟩
        rw [if_neg hq] at hrun
        have hq1 : (binF (U.env.word s')).1 ≠ 0 := fun e => hq (.inl e)
        have hq2 : (binF (U.env.word s')).2 = (lv : Int) := Classical.byContradiction fun e => hq (.inr e)
        have hi := HN.out hq1
        cases h2 : U.env.run k (.bin (lv + 1)) s'.adv with
        | none => rw [h2] at hrun; cases hrun
        | some r =>
          rw [h2, Option.bind_some] at hrun
          have d1 : ((binF (U.env.word s')).1 == 0) = false := by simpa using hq1
          have d2 : ((lv : Int) == (lv : Int)) = true := by simp
          rw [hq2] at HSg
          have HA := Lib.hid (fun W (h : PAt U W s'.adv) => HB.out k (by omega) s'.adv W r h h2)
          have hsh := run_short HU.out h2 (by show s'.i + 1 ≤ _; omega) (Nat.zero_le _)
          have hfin := run_fine U.env _ _ _ _ h2
          have hle1 : s'.i + 1 ≤ r.2.i := hfin.later.le
          have hlen1 : r.1.length + (s'.i + 1) ≤ 0 + r.2.i := hfin.len
          have htop : r.2.i ≤ U.ts.length := by
            have := hfin.later.top (by rw [show U.env.ts.length = U.ts.length from env_len _ _ _]; exact hi)
            rwa [show U.env.ts.length = U.ts.length from env_len _ _ _] at this
          have HSZ : Hid (x.length + r.1.length ≤ 100000) := Lib.hid (by omega)
          have HNew : Hid ((((binF (U.env.word s')).1, (0 : Int)) :: (x ++ r.1)).length ≤ r.2.i) := Lib.hid (by simp; omega)
          have HOp := Lib.hid (fun (W : World) (s : St) (h : PAt U W s) (op : Int) => @oper2 U W s h op)
          have HMs : Hid (∀ W, PAt U W r.2 → U.ts.length - at6 U W < U.ts.length - s'.i) := Lib.hid (fun W h => by rw [at6_eq h]; omega)
          have HM0 : Hid (at6 U wr = s'.i) := Lib.hid (at6_eq HS.out.at_)
          clear HB HL HR HF HN HU hq hq1 hq2 ei h2 hsh hfin
          generalize (binF (U.env.word s')).1 = op at *
          by_cases h4 : lv = 4
          · rw [if_pos h4] at hrun
            injection hrun with hrun
            subst hrun
            have d4 : ((lv : Int) == 4) = true := by rw [h4]; rfl
            clear h4
            go_wp2_with (first
              | (go_at_call 142; refine (HWd.out _ _ HS.out.at_).mono ?_; rintro e w2 ⟨rfl, hm⟩; have S2 := HS.out.trans (Step6.quiet HS.out.at_ hm); have O2 := HO.out.step (Step6.quiet HS.out.at_ hm); clear hm; have k3 := S2.at_.c3; have kf := S2.at_.f3)
              | (go_at_call 141; refine (HSg.out _).mono ?_; rintro e w3 ⟨rfl, rfl⟩)
              | (go_at_call 75; have S3 := S2.adv hi; have O3 := OwnT.adv6 S2 hi O2; refine (HA.out _ S3.at_).mono ?_; rintro e w4 ⟨a4, c4, rfl, O4, S4⟩)
              | (go_at_call 78; refine (HOp.out _ _ S4.at_ _ (O3.step S4) O4 HSZ.out).mono ?_; rintro e w5 ⟨a5, c5, rfl, O5, S5⟩))
            go_ret
            exact ⟨a5, c5, ret_slice6 (by simp), O5, (S3.trans S4).trans S5⟩
          · rw [if_neg h4] at hrun
            have d4 : ((lv : Int) == 4) = false := by simp; omega
            have HRun := Lib.hid hrun
            clear hrun
            go_wp2_with (first
              | (go_at_call 142; refine (HWd.out _ _ HS.out.at_).mono ?_; rintro e w2 ⟨rfl, hm⟩; have S2 := HS.out.trans (Step6.quiet HS.out.at_ hm); have O2 := HO.out.step (Step6.quiet HS.out.at_ hm); clear hm; have k3 := S2.at_.c3; have kf := S2.at_.f3)
              | (go_at_call 141; refine (HSg.out _).mono ?_; rintro e w3 ⟨rfl, rfl⟩)
              | (go_at_call 75; have S3 := S2.adv hi; have O3 := OwnT.adv6 S2 hi O2; refine (HA.out _ S3.at_).mono ?_; rintro e w4 ⟨a4, c4, rfl, O4, S4⟩)
              | (go_at_call 78; refine (HOp.out _ _ S4.at_ _ (O3.step S4) O4 HSZ.out).mono ?_; rintro e w5 ⟨a5, c5, rfl, O5, S5⟩))
            go_roundw
            case rel => exact ⟨k, _, r.2, a5, c5, by simp, by omega, HNew.out, O5, (S3.trans S4).trans S5, HRun.out⟩
            case measure => rw [HM0.out]; exact HMs.out _ S5.at_
/-- what all of the reader's functions do -/
structure All6 (U : Sur) (n : Nat) : Prop where
  choice : CallsG U n .choice
  unary : CallsG U n .unary
  prim : CallsG U n .prim
  bin : ∀ lv, lv ≤ 7 → CallsG U n (.bin lv)
theorem calls_zero (U : Sur) (g : Go6) : CallsG U 0 g := by
  intro s w o _ hr
  unfold Env.run at hr
  cases hr
theorem all6 (U : Sur) (hU : U.Ok) (n : Nat) : All6 U n := by
  induction n using Nat.strongRecOn with
  | ind n ih =>
    cases n with
    | zero => exact ⟨calls_zero _ _, calls_zero _ _, calls_zero _ _, fun _ _ => calls_zero _ _⟩
    | succ n =>
      have hn := ih n (Nat.lt_succ_self n)
      exact ⟨choiceP_any U hU n (hn.bin 2 (by omega)) hn.choice, unaryP_any U hU n hn.unary hn.prim, primP_any U hU n hn.choice, fun lv h => binP_any U hU n lv h hn.unary (fun h6 m hm => (ih m (by omega)).bin (lv + 1) (by omega))⟩
/-- the whole reading -/
theorem choice6 (U : Sur) (hU : U.Ok) (s : St) (w : World) (h : PAt U w s) :
    Calls Tryz.prog 38 #[.pointer (some ⟨U.W.heap.size, 0, none⟩)] w (Out6 U w (U.env.read .choice s)) := by
  obtain ⟨n, hn⟩ := read_some U.env .choice s
  exact (all6 U hU n).choice s w _ h hn
end Go.Proofs.YtdbahiepihkagaaGreatDoor
