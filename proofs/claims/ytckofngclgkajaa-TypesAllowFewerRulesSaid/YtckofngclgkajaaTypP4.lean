/- What next and typeOf of the program's types answer for every tree. -/
import Derived.Test.YtckofngclgkajaaTypP3
namespace Go.Proofs.Ytckofngclgkajaa
set_option maxRecDepth 100000
open Go.RowKit

theorem ar_leaf7 {op : Int} (h : arF op = 0) : 1 ≤ op ∧ op ≤ 17 := by
  unfold arF at h
  split at h
  · assumption
  · repeat' split at h
    all_goals omega
theorem ar_cond7 {op : Int} (h : arF op = 3) : op = 43 := by
  unfold arF at h
  repeat' split at h
  all_goals omega
theorem fin_leaf {op arg : Int} {ks : List Int} {b : Bool} (h : 1 ≤ op ∧ op ≤ 17) (hn : ¬ (nbF op = true ∧ b = false)) (h5 : op ≠ 5) (h12 : op ≠ 12) : finK op (opsO ((sigA op).take 0) [] 0) = leafK (op, arg) ks b := by
  have h1 : ¬ (b = false ∧ 11 ≤ op) := fun ⟨hb, ho⟩ => hn ⟨by unfold nbF; rw [decide_eq_true ho, decide_eq_true h.2]; rfl, hb⟩
  unfold leafK
  rw [if_neg h1]
  have hlist : op = 1 ∨ op = 2 ∨ op = 3 ∨ op = 4 ∨ op = 6 ∨ op = 7 ∨ op = 8 ∨ op = 9 ∨ op = 10 ∨ op = 11 ∨ op = 13 ∨ op = 14 ∨ op = 15 ∨ op = 16 ∨ op = 17 := by omega
  rcases hlist with rfl | rfl | rfl | rfl | rfl | rfl | rfl | rfl | rfl | rfl | rfl | rfl | rfl | rfl | rfl
  all_goals rfl
theorem fin_un {op z : Int} (h : 18 ≤ op ∧ op ≤ 29) : finK op (opsO ((sigA op).take 1) [z] 0) = singleK op z := by
  have hw : ∃ k, (sigA op).take 1 = [k] ∧ k = wantK op ∧ k ≠ 4 ∧ k ≠ 0 := by
    unfold sigA wantK
    by_cases h1 : 19 ≤ op ∧ op ≤ 23
    · exact ⟨2, by rw [if_pos h1]; rfl, by rw [if_pos h1], by decide, by decide⟩
    · exact ⟨1, by rw [if_neg h1, if_pos (by omega)]; rfl, by rw [if_neg h1], by decide, by decide⟩
  have hs : sigK op = giveK op ∧ sigK op ≠ 4 := by
    have hlist : op = 18 ∨ op = 19 ∨ op = 20 ∨ op = 21 ∨ op = 22 ∨ op = 23 ∨ op = 24 ∨ op = 25 ∨ op = 26 ∨ op = 27 ∨ op = 28 ∨ op = 29 := by omega
    rcases hlist with rfl | rfl | rfl | rfl | rfl | rfl | rfl | rfl | rfl | rfl | rfl | rfl
    all_goals decide
  obtain ⟨k, e, e2, h4, h0⟩ := hw
  rw [e]
  unfold singleK
  rw [← e2, ← hs.1]
  show finK op ((opsS k z 0).bind fun o => some o) = _
  unfold opsS
  by_cases hz : z = 0
  · rw [if_pos hz, if_neg (by omega)]
    rfl
  · rw [if_neg hz, if_neg h4]
    by_cases hk : z = k
    · rw [if_pos hk, if_pos hk]
      show (if sigK op = 4 then (0 : Int) else sigK op) = _
      rw [if_neg hs.2]
    · rw [if_neg hk, if_neg hk]
      rfl
theorem ops_two (k l a b : Int) (h : k ≠ 4) (hl : l ≠ 4) : opsO [k, l] [a, b] 0 = if a ≠ 0 ∧ b ≠ 0 ∧ a = k ∧ b = l then some 0 else none := by
  show (opsS k a 0).bind (fun o => (opsS l b o).bind fun o => some o) = _
  unfold opsS
  by_cases ha : a = 0
  · rw [if_pos ha, if_neg (by omega)]; rfl
  · rw [if_neg ha, if_neg h]
    by_cases hk : a = k
    · rw [if_pos hk, Option.bind_some]
      by_cases hb : b = 0
      · rw [if_pos hb, if_neg (by omega)]; rfl
      · rw [if_neg hb, if_neg hl]
        by_cases hk2 : b = l
        · rw [if_pos hk2, if_pos (by omega)]; rfl
        · rw [if_neg hk2, if_neg (by omega)]; rfl
    · rw [if_neg hk, if_neg (by omega)]; rfl
theorem ops_same (a b : Int) : opsO [4, 4] [a, b] 0 = if a ≠ 0 ∧ a = b then some a else none := by
  show (opsS 4 a 0).bind (fun o => (opsS 4 b o).bind fun o => some o) = _
  unfold opsS
  by_cases ha : a = 0
  · rw [if_pos ha, if_neg (by omega)]; rfl
  · rw [if_neg ha, if_pos rfl, if_pos rfl, Option.bind_some]
    by_cases hb : b = 0
    · rw [if_pos hb, if_neg (by omega)]; rfl
    · rw [if_neg hb, if_pos rfl, if_neg ha]
      by_cases hk2 : b = a
      · rw [if_pos hk2, if_pos (by omega)]; rfl
      · rw [if_neg hk2, if_neg (by omega)]; rfl
theorem fin_bi {op a b : Int} (h : 30 ≤ op ∧ op ≤ 42) : finK op (opsO ((sigA op).take 2) [a, b] 0) = doubleK op a b := by
  unfold doubleK
  by_cases h1 : op = 35 ∨ op = 36
  · rw [if_pos h1]
    have e : (sigA op).take 2 = [4, 4] := by rcases h1 with rfl | rfl <;> rfl
    have e2 : sigK op = 2 := by rcases h1 with rfl | rfl <;> rfl
    rw [e, ops_same]
    by_cases hab : a = b ∧ a ≠ 0
    · rw [if_pos hab, if_pos (by omega)]
      show (if sigK op = 4 then a else sigK op) = _
      rw [e2]; rfl
    · rw [if_neg hab, if_neg (by omega)]
      rfl
  · rw [if_neg h1]
    by_cases h2 : op = 41 ∨ op = 42
    · rw [if_pos h2]
      have e : (sigA op).take 2 = [2, 2] := by rcases h2 with rfl | rfl <;> rfl
      have e2 : sigK op = 2 := by rcases h2 with rfl | rfl <;> rfl
      rw [e, ops_two _ _ _ _ (by decide) (by decide)]
      by_cases hab : a = 2 ∧ b = 2
      · rw [if_pos hab, if_pos (by omega)]
        show (if sigK op = 4 then (0 : Int) else sigK op) = _
        rw [e2]; rfl
      · rw [if_neg hab, if_neg (by omega)]
        rfl
    · rw [if_neg h2]
      have hlist : op = 30 ∨ op = 31 ∨ op = 32 ∨ op = 33 ∨ op = 34 ∨ op = 37 ∨ op = 38 ∨ op = 39 ∨ op = 40 := by omega
      have e : (sigA op).take 2 = [1, 1] := by rcases hlist with rfl | rfl | rfl | rfl | rfl | rfl | rfl | rfl | rfl <;> rfl
      have e2 : sigK op = (if 37 ≤ op ∧ op ≤ 40 then 2 else 1) ∧ sigK op ≠ 4 := by rcases hlist with rfl | rfl | rfl | rfl | rfl | rfl | rfl | rfl | rfl <;> decide
      rw [e, ops_two _ _ _ _ (by decide) (by decide), ← e2.1]
      by_cases hab : a = 1 ∧ b = 1
      · rw [if_pos hab, if_pos (by omega)]
        show (if sigK op = 4 then (0 : Int) else sigK op) = _
        rw [if_neg e2.2]
      · rw [if_neg hab, if_neg (by omega)]
        rfl
theorem fin_cond {c a b : Int} : finK 43 (opsO ((sigA 43).take 3) [c, a, b] 0) = condK c a b := by
  show finK 43 ((opsS 2 c 0).bind fun o => (opsS 4 a o).bind fun o => (opsS 4 b o).bind fun o => some o) = _
  unfold condK opsS
  by_cases hc0 : c = 0
  · rw [if_pos hc0, if_neg (by omega)]; rfl
  · rw [if_neg hc0, if_neg (by decide)]
    by_cases hc : c = 2
    · rw [if_pos hc, Option.bind_some]
      by_cases ha : a = 0
      · rw [if_pos ha]
        show (0 : Int) = _
        split
        · omega
        · rfl
      · rw [if_neg ha, if_pos rfl, if_pos rfl, Option.bind_some]
        by_cases hb : b = 0
        · rw [if_pos hb, if_neg (by omega)]; rfl
        · rw [if_neg hb, if_pos rfl, if_neg ha]
          by_cases hk2 : b = a
          · rw [if_pos hk2, if_pos (by omega)]; rfl
          · rw [if_neg hk2, if_neg (by omega)]; rfl
    · rw [if_neg hc, if_neg (by omega)]; rfl
theorem nextP_any (S : Src7) (hS : S.Ok) (hcap : S.xs.length ≤ S.c) : ∀ (x : Ex) (p : Nat) (b : Bool), Sits S.xs p x → x.wf → x.args S.ks.length → Nxt S p b (x.kind S.ks b) (p + x.flat.length)
  | .leaf t, p, b, hs, hw, ha => by
    have ha2 := Ex.args_leaf ha
    have hr := ar_leaf7 hw
    obtain ⟨op, arg⟩ := t
    dsimp only at hr
    show Nxt S p b (leafK (op, arg) S.ks b) (p + 1)
    by_cases hn : nbF op = true ∧ b = false
    · obtain ⟨hn1, rfl⟩ := hn
      have h2 : 11 ≤ op ∧ op ≤ 17 := by unfold nbF at hn1; simpa using hn1
      have e : leafK (op, arg) S.ks false = 0 := by unfold leafK; rw [if_pos ⟨rfl, h2.1⟩]
      rw [e]
      exact nextP_none S hS hcap p op arg _ rfl hs h2 _
    · by_cases hv : op = 5 ∨ op = 12
      · have hb : op = 5 ∨ (op = 12 ∧ b = true) := by
          rcases hv with h | h
          · exact .inl h
          · subst h
            cases b with
            | true => exact .inr ⟨rfl, rfl⟩
            | false => exact absurd ⟨rfl, rfl⟩ hn
        have e : leafK (op, arg) S.ks b = idA S.ks arg.toNat := by
          unfold leafK
          dsimp only
          rw [if_neg (by rintro ⟨hb1, h11⟩; rcases hb with h | ⟨_, h⟩
                         · omega
                         · rw [h] at hb1; cases hb1), if_neg (by omega), if_neg (by omega), if_pos hv]
        rw [e]
        exact nextP_var S hS hcap p op arg _ rfl hs b hb ha2
      · have := nextP_op S hS hcap p op arg (.leaf (op, arg)) rfl hs b (by omega) hn (by omega) (by omega) 0 hw (by omega) [] rfl (fun _ => p + 1) rfl (fun k hk => absurd hk (by omega))
        rwa [fin_leaf (arg := arg) (ks := S.ks) hr hn (by omega) (by omega)] at this
  | .un t a, p, b, hs, hw, ha => by
    have hr := ar_un7 hw.1
    have ih := nextP_any S hS hcap a (p + 1) (b || aggF t.1) hs.un hw.2 (Ex.args_un ha).2
    have h1 := hw.1
    obtain ⟨op, arg⟩ := t
    dsimp only at hr ih h1
    have := nextP_op S hS hcap p op arg (.un (op, arg) a) rfl hs b (by omega) (by unfold nbF; simp; omega) (by omega) (by omega) 1 h1 (by omega) [a.kind S.ks (b || aggF op)] rfl (fun k => if k = 0 then p + 1 else p + 1 + a.flat.length) rfl (fun k hk => by
      obtain rfl : k = 0 := by omega
      exact ih)
    rw [fin_un hr] at this
    have e : p + (Ex.un (op, arg) a).flat.length = p + 1 + a.flat.length := by simp [Ex.flat]; omega
    rw [e]
    exact this
  | .bi t x y, p, b, hs, hw, ha => by
    have hr := ar_bi7 hw.1
    have i1 := nextP_any S hS hcap x (p + 1) b hs.bi1 hw.2.1 (Ex.args_bi ha).2.1
    have i2 := nextP_any S hS hcap y (p + 1 + x.flat.length) b hs.bi2 hw.2.2 (Ex.args_bi ha).2.2
    have h1 := hw.1
    obtain ⟨op, arg⟩ := t
    dsimp only at hr h1
    have hag : aggF op = false := by rw [aggF_two]; simp; omega
    have := nextP_op S hS hcap p op arg (.bi (op, arg) x y) rfl hs b (by omega) (by unfold nbF; simp; omega) (by omega) (by omega) 2 h1 (by omega) [x.kind S.ks b, y.kind S.ks b] rfl (fun k => if k = 0 then p + 1 else if k = 1 then p + 1 + x.flat.length else p + 1 + x.flat.length + y.flat.length) rfl (fun k hk => by
      rw [hag, Bool.or_false]
      rcases (show k = 0 ∨ k = 1 by omega) with rfl | rfl
      · exact i1
      · exact i2)
    rw [fin_bi hr] at this
    have e : p + (Ex.bi (op, arg) x y).flat.length = p + 1 + x.flat.length + y.flat.length := by simp [Ex.flat]; omega
    rw [e]
    exact this
  | .cond t c x y, p, b, hs, hw, ha => by
    have hr := ar_cond7 hw.1
    have i1 := nextP_any S hS hcap c (p + 1) b hs.c1 hw.2.1 (Ex.args_cond ha).2.1
    have i2 := nextP_any S hS hcap x (p + 1 + c.flat.length) b hs.c2 hw.2.2.1 (Ex.args_cond ha).2.2.1
    have i3 := nextP_any S hS hcap y (p + 1 + c.flat.length + x.flat.length) b hs.c3 hw.2.2.2 (Ex.args_cond ha).2.2.2
    have h1 := hw.1
    obtain ⟨op, arg⟩ := t
    dsimp only at hr h1
    subst hr
    have := nextP_op S hS hcap p 43 arg (.cond (43, arg) c x y) rfl hs b (by omega) (by unfold nbF; simp) (by omega) (by omega) 3 h1 (by omega) [c.kind S.ks b, x.kind S.ks b, y.kind S.ks b] rfl (fun k => if k = 0 then p + 1 else if k = 1 then p + 1 + c.flat.length else if k = 2 then p + 1 + c.flat.length + x.flat.length else p + 1 + c.flat.length + x.flat.length + y.flat.length) rfl (fun k hk => by
      rw [show aggF 43 = false by rw [aggF_two]; rfl, Bool.or_false]
      rcases (show k = 0 ∨ k = 1 ∨ k = 2 by omega) with rfl | rfl | rfl
      · exact i1
      · exact i2
      · exact i3)
    rw [fin_cond] at this
    have e : p + (Ex.cond (43, arg) c x y).flat.length = p + 1 + c.flat.length + x.flat.length + y.flat.length := by simp [Ex.flat]; omega
    rw [e]
    exact this
set_option maxHeartbeats 1000000 in
theorem typeOfP_any (a : Option Addr) (c : Nat) (xs : List (Int × Int)) (ka : Option Addr) (kc : Nat) (ks : List Int) (b : Bool) (w : World) (hX : LinksAt w a xs) (hK : IntsAt w ka ks) (hn : xs.length ≤ 1000) (hcap : xs.length ≤ c) (x : Ex) (hx : x.flat = xs) (hw : x.wf) (ha : x.args ks.length) :
    Calls Try.prog 32 #[.slice a xs.length c, .slice ka ks.length kc, .bool b] w fun e w' => e = .returned (.int .i64 (x.kind ks b)) ∧ Below w.heap.size w w' := by
  obtain ⟨r, hr⟩ := flat_top x
  obtain ⟨g, o, rfl, _⟩ := hX.row (by rw [← hx, hr]; simp)
  have hN := nextP_any (Src7.mk w g o c xs ka kc ks) ⟨hX, hK, hn⟩ hcap x 0 b ⟨[], by show xs.drop 0 = x.flat ++ []; rw [hx]; simp⟩ hw ha
  have hR : RAt (Src7.mk w g o c xs ka kc ks) 0 (w.alloc (.cells #[.slice (some ⟨g, o, none⟩) xs.length c, .slice ka ks.length kc] 76)) := by
    refine ⟨below_alloc7 _ _, by rw [World.size_alloc]; exact Nat.lt_succ_self _, ⟨some ⟨g, o, none⟩, World.cell?_alloc_new w _ _ 0, fun _ => by simp⟩, World.cell?_alloc_new w _ _ 1, World.frozen?_alloc_new w _ _ 0, Nat.zero_le _⟩
  have hh := Lib.hid (hN _ hR)
  have HB := Lib.hid (fun w' (hg : (w.alloc (.cells #[.slice (some ⟨g, o, none⟩) xs.length c, .slice ka ks.length kc] 76)).grownBy w' (some w.heap.size)) => hR.grown hg)
  dsimp only at hh HB
  clear hN hR hX hK ha hx hcap hn
  generalize xs.length = n at *
  generalize x.kind ks b = z at *
  generalize ks.length = m at *
  go_enter Try.func32, Try.ntmps32
  go_wp2_with (go_at_call 60; refine hh.out.mono ?_; rintro e w1 ⟨rfl, _, hg1⟩)
  go_ret
  exact ⟨rfl, HB.out _ hg1⟩
end Go.Proofs.Ytckofngclgkajaa
