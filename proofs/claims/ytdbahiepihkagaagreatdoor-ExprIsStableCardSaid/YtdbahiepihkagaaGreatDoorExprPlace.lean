/- Where the operands of a tree stand in a list. No program in it. -/
import Derived.Test.YtdbahiepihkagaaGreatDoorExprNames
import Derived.Test.YtdbahiepihkagaaGreatDoorExprBack
import Derived.Test.YtdbahiepihkagaaGreatDoorExprTree
namespace Go.Proofs.YtdbahiepihkagaaGreatDoor
set_option maxRecDepth 100000
open Go.RowKit

set_option linter.unusedSimpArgs false in
theorem levelE_any (op : Int) (w : World) : Calls Tryz.prog 90 #[.int .i64 op] w fun e w' => e = .returned (.int .i64 (lvF op)) ∧ w' = w := by
  by_cases h1 : op = 43
  · subst h1
    go_enter Tryz.func90, Tryz.ntmps90
    go_wp2
    go_ret
    exact ⟨rfl, rfl⟩
  by_cases h2 : op = 42
  · subst h2
    go_enter Tryz.func90, Tryz.ntmps90
    go_wp2
    go_ret
    exact ⟨rfl, rfl⟩
  by_cases h3 : op = 41
  · subst h3
    go_enter Tryz.func90, Tryz.ntmps90
    go_wp2
    go_ret
    exact ⟨rfl, rfl⟩
  by_cases h4 : op = 33
  · subst h4
    go_enter Tryz.func90, Tryz.ntmps90
    go_wp2
    go_ret
    exact ⟨rfl, rfl⟩
  by_cases h5 : op = 34
  · subst h5
    go_enter Tryz.func90, Tryz.ntmps90
    go_wp2
    go_ret
    exact ⟨rfl, rfl⟩
  by_cases h6 : op = 18
  · subst h6
    go_enter Tryz.func90, Tryz.ntmps90
    go_wp2
    go_ret
    exact ⟨rfl, rfl⟩
  by_cases h7 : op = 19
  · subst h7
    go_enter Tryz.func90, Tryz.ntmps90
    go_wp2
    go_ret
    exact ⟨rfl, rfl⟩
  have e1 : (op == 43) = false := by simpa using h1
  have e2 : (op == 42) = false := by simpa using h2
  have e3 : (op == 41) = false := by simpa using h3
  have e4 : (op == 33) = false := by simpa using h4
  have e5 : (op == 34) = false := by simpa using h5
  have e6 : (op == 18) = false := by simpa using h6
  have e7 : (op == 19) = false := by simpa using h7
  by_cases h8 : 35 ≤ op
  all_goals by_cases h9 : op ≤ 40
  all_goals by_cases h10 : 30 ≤ op
  all_goals by_cases h11 : op ≤ 32
  all_goals first
    | omega
    | (have h12 : lvF op = lvF op := rfl
       conv at h12 => rhs; unfold lvF
       simp only [h1, h2, h3, h4, h5, h6, h7, h8, h9, h10, h11, and_true, true_and, and_false, false_and, or_false, false_or, if_true, if_false] at h12
       rw [h12]
       go_enter Tryz.func90, Tryz.ntmps90
       go_wp2
       go_ret
       exact ⟨rfl, rfl⟩)
theorem mkS_add (l m : Bytes) (h : l.length ≤ 100000) (k : m.length ≤ 100000) (W : World) : (Op.stringOp .add (mkS l) (mkS m)).run Tryz.prog W = .ok (.string (mkS (l ++ m))) W := run_string_add_lists (P := Tryz.prog) W l m (by omega) (by omega)
theorem conv_digit (d : Nat) (hd : d < 10) (W : World) : (convert 46 9 (.slice (some ⟨W.heap.size, 0, none⟩) 1 1)).run Tryz.prog (W.alloc (.cells #[.int .u8 (48 + (d : Int))] 5)) = .ok (.string ⟨[digit d].toArray⟩) (W.alloc (.cells #[.int .u8 (48 + (d : Int))] 5)) := by
  refine run_convert_bytes_back (P := Tryz.prog) (W.alloc (.cells #[.int .u8 (48 + (d : Int))] 5)) 46 9 5 ⟨W.heap.size, 0, none⟩ 1 [digit d] Tryz.underlying46 Tryz.underlying5 Tryz.underlying9 (fun j hj => ?_)
  have hj0 : j = 0 := by simpa using hj
  subst hj0
  rw [add_none, World.cell?_alloc_new]
  simp [digit_nat hd]
theorem ret_strE {a b : Bytes} (h : a = b) : Ending.returned (.string ⟨a.toArray⟩) = .returned (.string ⟨b.toArray⟩) := by rw [h]
theorem dec_neE (n : Nat) : decB n ≠ [] := by
  obtain ⟨_, _, b, l, h, _⟩ := dec_facts n
  rw [h]
  simp
set_option maxHeartbeats 1000000 in
theorem decimalE_any (n : Nat) (w : World) (hn : n ≤ 1073741824) :
    Calls Tryz.prog 91 #[.int .i64 (n : Int)] w fun e w' => e = .returned (.string (mkS (decB n))) ∧ Below w.heap.size w w' := by
  have hc1 := conv_digit (n % 10) (by omega)
  rw [show ((n % 10 : Nat) : Int) = (n : Int) % 10 from by omega] at hc1
  have hle := dec_len hn
  go_enter Tryz.func91, Tryz.ntmps91
  go_wp2
  clear hc1
  go_loopw [0, 3] (fun t q wr => ∃ (v : Nat) (acc : Bytes), v ≤ n ∧ t = .int .i64 v ∧ q = .string ⟨acc.toArray⟩ ∧ acc.length ≤ 10 ∧ (v < 10 → decB n = acc) ∧ (10 ≤ v → decB n = decB (v / 10) ++ acc) ∧ Below w.heap.size w wr) (fun t _ _ => (intOf t).toNat)
  case atStart =>
    refine ⟨n, [digit (n % 10)], Nat.le_refl _, rfl, rfl, by simp, fun h => ?_, fun h => dec_big h, (Below.refl _ _).alloc (Nat.le_refl _) _⟩
    rw [dec_small h, Nat.mod_eq_of_lt h]
  case round =>
    obtain ⟨v, acc, hv, rfl, rfl, ha, h1, h2, hbel⟩ := hrel
    have H1 := Lib.hid h1
    have H2 := Lib.hid h2
    clear h1 h2
    have hsz := hbel.size
    by_cases hlt : 10 ≤ v
    · have hc2 := conv_digit (v / 10 % 10) (by omega)
      rw [show ((v / 10 % 10 : Nat) : Int) = (v : Int) / 10 % 10 from by omega] at hc2
      have h6 : acc.length + 1 ≤ 10 := by
        have h3 := H2.out hlt
        have h4 := List.length_pos_iff.2 (dec_neE (v / 10))
        rw [h3, List.length_append] at hle
        omega
      have hN1 : Hid (v / 10 < 10 → decB n = digit (v / 10 % 10) :: acc) := Lib.hid (fun h => by rw [H2.out hlt, dec_small h, Nat.mod_eq_of_lt h]; rfl)
      have hN2 : Hid (10 ≤ v / 10 → decB n = decB (v / 10 / 10) ++ digit (v / 10 % 10) :: acc) := Lib.hid (fun h => by rw [H2.out hlt, dec_big h]; simp)
      have hadd := fun W => run_string_add_lists (P := Tryz.prog) W [digit (v / 10 % 10)] acc (by simp) (by omega)
      go_wp2
      go_roundw
      case rel => exact ⟨v / 10, digit (v / 10 % 10) :: acc, by omega, by go_num, by simp, by simp; omega, hN1.out, hN2.out, hbel.alloc hsz _⟩
      case measure => simp [intOf]; omega
    · have HE := Lib.hid (H1.out (by omega))
      go_wp2
      go_ret
      exact ⟨ret_strE HE.out.symm, hbel⟩
def wordC : Array Value := #[.string ⟨#[]⟩, .string ⟨#[]⟩, .string ⟨#[116, 114, 117, 101]⟩, .string ⟨#[102, 97, 108, 115, 101]⟩, .string ⟨#[110, 111, 110, 101]⟩, .string ⟨#[]⟩, .string ⟨#[110]⟩, .string ⟨#[105, 100, 115]⟩, .string ⟨#[105, 100]⟩, .string ⟨#[100, 101, 103]⟩, .string ⟨#[114, 111, 111, 116]⟩, .string ⟨#[113]⟩, .string ⟨#[]⟩, .string ⟨#[113, 46, 105, 100]⟩, .string ⟨#[113, 46, 100, 101, 103]⟩, .string ⟨#[113, 46, 114, 111, 111, 116]⟩, .string ⟨#[113, 46, 119, 101, 105, 103, 104, 116]⟩, .string ⟨#[113, 46, 98, 97, 99, 107]⟩, .string ⟨#[45]⟩, .string ⟨#[33]⟩, .string ⟨#[97, 108, 108]⟩, .string ⟨#[115, 111, 109, 101]⟩, .string ⟨#[99, 111, 117, 110, 116]⟩, .string ⟨#[102, 105, 114, 115, 116]⟩, .string ⟨#[109, 105, 110]⟩, .string ⟨#[109, 97, 120]⟩, .string ⟨#[115, 117, 109]⟩, .string ⟨#[109, 101, 120]⟩, .string ⟨#[115, 101, 99, 111, 110, 100]⟩, .string ⟨#[104, 101, 97, 100]⟩, .string ⟨#[42]⟩, .string ⟨#[47]⟩, .string ⟨#[37]⟩, .string ⟨#[43]⟩, .string ⟨#[45]⟩, .string ⟨#[61, 61]⟩, .string ⟨#[33, 61]⟩, .string ⟨#[60]⟩, .string ⟨#[60, 61]⟩, .string ⟨#[62]⟩, .string ⟨#[62, 61]⟩, .string ⟨#[38, 38]⟩, .string ⟨#[124, 124]⟩, .string ⟨#[]⟩]
theorem wordC_at (k : Nat) (hk : k < 44) : wordC[k]? = some (.string (mkS (wordF k))) := by
  have h : wordC = (wordL.map fun l => Value.string (mkS l)).toArray := rfl
  rw [h, List.getElem?_toArray, List.getElem?_map]
  unfold wordF
  rw [Int.toNat_natCast, List.getD_eq_getElem?_getD, List.getElem?_eq_getElem (show k < wordL.length from hk)]
  rfl
set_option maxHeartbeats 1000000 in
theorem wordE_any (k : Nat) (hk : k < 44) (w : World) :
    Calls Tryz.prog 92 #[.int .i64 (k : Int)] w fun e w' => e = .returned (.string (mkS (wordF k))) ∧ Below w.heap.size w w' := by
  have hcell : (w.alloc (.cells wordC 9)).cell? ⟨w.heap.size, k, none⟩ = some (.string (mkS (wordF k))) := (World.cell?_alloc_new w wordC _ k).trans (wordC_at k hk)
  have hb := (Below.refl w.heap.size w).alloc (Nat.le_refl _) (.cells wordC 9)
  have HB := Lib.hid hb
  clear hb
  generalize mkS (wordF k) = z at *
  unfold wordC at hcell
  have q0 : (0 : Int) ≤ (k : Int) := by omega
  have q1 : (k : Int) < 44 := by omega
  go_enter Tryz.func92, Tryz.ntmps92
  go_wp2
  go_ret
  exact ⟨rfl, HB.out⟩
end Go.Proofs.YtdbahiepihkagaaGreatDoor
namespace Go.Proofs.YtdbahiepihkagaaGreatDoor
set_option maxRecDepth 100000
open Go.RowKit

set_option linter.unusedSimpArgs false in
theorem levelP_any (op : Int) (w : World) : Calls Tryz.prog 83 #[.int .i64 op] w fun e w' => e = .returned (.int .i64 ((lvF op : Int) - 1)) ∧ w' = w := by
  by_cases h1 : op = 43
  · subst h1
    go_enter Tryz.func83, Tryz.ntmps83
    go_wp2
    go_ret
    exact ⟨rfl, rfl⟩
  by_cases h2 : op = 42
  · subst h2
    go_enter Tryz.func83, Tryz.ntmps83
    go_wp2
    go_ret
    exact ⟨rfl, rfl⟩
  by_cases h3 : op = 41
  · subst h3
    go_enter Tryz.func83, Tryz.ntmps83
    go_wp2
    go_ret
    exact ⟨rfl, rfl⟩
  by_cases h4 : op = 33
  · subst h4
    go_enter Tryz.func83, Tryz.ntmps83
    go_wp2
    go_ret
    exact ⟨rfl, rfl⟩
  by_cases h5 : op = 34
  · subst h5
    go_enter Tryz.func83, Tryz.ntmps83
    go_wp2
    go_ret
    exact ⟨rfl, rfl⟩
  by_cases h6 : op = 18
  · subst h6
    go_enter Tryz.func83, Tryz.ntmps83
    go_wp2
    go_ret
    exact ⟨rfl, rfl⟩
  by_cases h7 : op = 19
  · subst h7
    go_enter Tryz.func83, Tryz.ntmps83
    go_wp2
    go_ret
    exact ⟨rfl, rfl⟩
  have e1 : (op == 43) = false := by simpa using h1
  have e2 : (op == 42) = false := by simpa using h2
  have e3 : (op == 41) = false := by simpa using h3
  have e4 : (op == 33) = false := by simpa using h4
  have e5 : (op == 34) = false := by simpa using h5
  have e6 : (op == 18) = false := by simpa using h6
  have e7 : (op == 19) = false := by simpa using h7
  by_cases h8 : 35 ≤ op
  all_goals by_cases h9 : op ≤ 40
  all_goals by_cases h10 : 30 ≤ op
  all_goals by_cases h11 : op ≤ 32
  all_goals first
    | omega
    | (have h12 : lvF op = lvF op := rfl
       conv at h12 => rhs; unfold lvF
       simp only [h1, h2, h3, h4, h5, h6, h7, h8, h9, h10, h11, and_true, true_and, and_false, false_and, or_false, false_or, if_true, if_false] at h12
       rw [h12]
       go_enter Tryz.func83, Tryz.ntmps83
       go_wp2
       go_ret
       exact ⟨rfl, rfl⟩)
theorem mkS_emp (l : Bytes) : (mkS l).toList.isEmpty = l.isEmpty := by rw [ByteArray.toList_eq, mkS_list]
set_option maxHeartbeats 1000000 in
theorem operationP_any (a n : Nat) (h43 : a + n ≤ 43) (z : Int) (hz : z + 1 = (a : Int) + (n : Int)) (l : Bytes) (w : World) (hW : Wd w) :
    Calls Tryz.prog 169 #[.int .i64 (a : Int), .int .i64 z, .string (mkS l)] w fun e w' => e = .returned (.int .i64 (opF a n l : Nat)) ∧ w' = w := by
  have hem := mkS_emp l
  by_cases h0 : l = []
  · have hv : opF a n l = 0 := by unfold opF; rw [if_pos h0]
    rw [hv]
    have he : (mkS l).toList.isEmpty = true := by rw [hem, h0]; rfl
    clear hem hW
    generalize mkS l = X at *
    go_enter Tryz.func169, Tryz.ntmps169
    go_wp2
    go_ret
    exact ⟨rfl, rfl⟩
  have he : (mkS l).toList.isEmpty = false := by
    rw [hem]
    cases l with
    | nil => exact absurd rfl h0
    | cons x r => rfl
  have HV : Hid (opF a n l = opG l a n) := Lib.hid (by unfold opF; rw [if_neg h0])
  have HHit := Lib.hid (fun (k : Nat) (h : k < n) => @opG_hit l n k a h)
  have HMiss := Lib.hid (@opG_miss l n a)
  have HW := Lib.hid hW
  have HS := Lib.hid (mkS_same l)
  have HN := Lib.hid (fun (x : Bytes) (h : x ≠ l) => mkS_not h)
  obtain ⟨v, hv⟩ : ∃ v, v = opF a n l := ⟨_, rfl⟩
  rw [← hv] at HV ⊢
  clear hem hv hW h0
  go_enter Tryz.func169, Tryz.ntmps169
  go_wp2
  go_loop [7] (fun t => ∃ j : Nat, t = .int .i64 ((a + j : Nat) : Int) ∧ j ≤ n ∧ (∀ i, i < j → wordF ((a + i : Nat) : Int) ≠ l)) (fun t => a + n - (intOf t).toNat)
  case atStart => exact ⟨0, rfl, Nat.zero_le _, (fun i h => by omega)⟩
  case round =>
    obtain ⟨j, rfl, hj, hlow⟩ := hrel
    have HL := Lib.hid hlow
    clear hlow
    obtain ⟨k, hk⟩ : ∃ k, k = a + j := ⟨_, rfl⟩
    rw [← hk]
    by_cases hlt : j < n
    · have hcell := HW.out.at_ k (by omega)
      have q1 : (k : Int) ≤ z := by omega
      have q2 : (0 : Int) ≤ (k : Int) ∧ (k : Int) < 43 := by omega
      obtain ⟨x, hx⟩ : ∃ x, x = wordF (k : Int) := ⟨_, rfl⟩
      rw [← hx] at hcell
      have HX := Lib.hid hx
      have HK := Lib.hid hk
      clear hx hk
      by_cases he2 : x = l
      · have hz : v = k := by
          rw [HV.out, HHit.out j hlt HL.out (by rw [← HK.out, ← HX.out]; exact he2), HK.out]
        subst he2
        have hbeq := HS.out
        go_wp2
        go_ret
        exact ⟨by first | rfl | (rw [hz]; rfl), rfl⟩
      · have hbeq := HN.out x he2
        go_wp2
        go_round
        case rel =>
          refine ⟨j + 1, by have := HK.out; subst this; go_num, hlt, fun i hi => ?_⟩
          rcases Nat.lt_or_ge i j with h | h
          · exact HL.out i h
          · obtain rfl : i = j := by omega
            rw [← HK.out, ← HX.out]
            exact he2
        case measure => simp [intOf]; omega
    · have q1 : ¬ ((k : Int) ≤ z) := by omega
      have hz : v = 0 := by
        rw [HV.out]
        exact HMiss.out (fun i hi => HL.out i (by omega))
      go_wp2
      go_ret
      exact ⟨by first | rfl | (rw [hz]; rfl), rfl⟩
set_option maxHeartbeats 1000000 in
theorem signQ_any (U : Sup) (hU : U.Ok) (s : St) (xs : List (Int × Int)) (w : World) (h : RAt U w s xs) (lv : Nat) (z : Int) (hz : z + 1 = (lv : Int)) :
    Calls Tryz.prog 130 #[.pointer (some ⟨U.W0.heap.size, 0, none⟩), .int .i64 z] w fun e w' => e = .returned (.int .i64 (signP lv (U.env.word s) : Nat)) ∧ Below w.heap.size w w' := by
  have HW := Lib.hid (wordQ_any U hU s xs w h)
  have HO := Lib.hid (fun W (hb : Below w.heap.size w W) => operationP_any 30 13 (by omega) 42 (by omega) (U.env.word s) W ((hU.words.below h.bel (Nat.le_refl _)).below hb (Nat.le_refl _)))
  have HV : Hid (signP lv (U.env.word s) = if lvF ((opF 30 13 (U.env.word s) : Nat) : Int) = lv then opF 30 13 (U.env.word s) else 0) := Lib.hid rfl
  have HL := Lib.hid (fun (op : Int) W => levelP_any op W)
  have hop := opF_le 30 13 (U.env.word s)
  clear h hU
  generalize hpb : U.W0.heap.size = pb at *
  generalize mkS (U.env.word s) = Y at *
  generalize signP lv (U.env.word s) = v at *
  generalize opF 30 13 (U.env.word s) = op at *
  by_cases hq : lvF (op : Int) = lv
  · have hv : v = op := by rw [HV.out, if_pos hq]
    subst hv
    have d : ((lvF (v : Int) : Int) - 1 != z) = false := by simp; omega
    go_enter Tryz.func130, Tryz.ntmps130
    go_wp2_with (first | (go_at_call 64; refine HW.out.mono ?_; rintro e w1 ⟨rfl, hb1⟩) | (go_at_call 169; refine (HO.out _ hb1).mono ?_; rintro e w2 ⟨rfl, rfl⟩) | (go_at_call 83; refine (HL.out _ _).mono ?_; rintro e w3 ⟨rfl, rfl⟩))
    go_ret
    exact ⟨rfl, hb1⟩
  · have hv : v = 0 := by rw [HV.out, if_neg hq]
    subst hv
    have d : ((lvF (op : Int) : Int) - 1 != z) = true := by simp; omega
    go_enter Tryz.func130, Tryz.ntmps130
    go_wp2_with (first | (go_at_call 64; refine HW.out.mono ?_; rintro e w1 ⟨rfl, hb1⟩) | (go_at_call 169; refine (HO.out _ hb1).mono ?_; rintro e w2 ⟨rfl, rfl⟩) | (go_at_call 83; refine (HL.out _ _).mono ?_; rintro e w3 ⟨rfl, rfl⟩))
    go_ret
    exact ⟨rfl, hb1⟩
end Go.Proofs.YtdbahiepihkagaaGreatDoor
namespace Go.Proofs.YtdbahiepihkagaaGreatDoor
set_option maxRecDepth 100000

theorem tree_eat : ∀ (x : Ex), x.wf → ∀ r : List (Int × Int), eat (x.flat ++ r) 1 = some x.flat.length
  | .leaf t, h, r => by
    have h0 : arF t.1 = 0 := h
    show eat (t :: r) 1 = some 1
    rw [eat_cons, if_neg (by omega), h0]
    show (eat r 0).map (· + 1) = some 1
    rw [eat_zero]
    rfl
  | .un t a, h, r => by
    have h0 : arF t.1 = 1 := h.1
    show eat (t :: (a.flat ++ r)) 1 = some (a.flat.length + 1)
    rw [eat_cons, if_neg (by omega), h0]
    show (eat (a.flat ++ r) 1).map (· + 1) = _
    rw [tree_eat a h.2]
    rfl
  | .bi t a b, h, r => by
    have h0 : arF t.1 = 2 := h.1
    show eat (t :: ((a.flat ++ b.flat) ++ r)) 1 = some ((a.flat ++ b.flat).length + 1)
    rw [eat_cons, if_neg (by omega), h0, List.append_assoc]
    show (eat (a.flat ++ (b.flat ++ r)) (1 + 1)).map (· + 1) = _
    rw [eat_add, tree_eat a h.2.1, Option.bind_some, List.drop_left, tree_eat b h.2.2]
    simp
  | .cond t c a b, h, r => by
    have h0 : arF t.1 = 3 := h.1
    show eat (t :: ((c.flat ++ (a.flat ++ b.flat)) ++ r)) 1 = some ((c.flat ++ (a.flat ++ b.flat)).length + 1)
    rw [eat_cons, if_neg (by omega), h0, List.append_assoc, List.append_assoc]
    show (eat (c.flat ++ (a.flat ++ (b.flat ++ r))) (1 + (1 + 1))).map (· + 1) = _
    rw [eat_add, tree_eat c h.2.1, Option.bind_some, List.drop_left, eat_add, tree_eat a h.2.2.1, Option.bind_some, List.drop_left, tree_eat b h.2.2.2]
    simp
/-- a tree stands at a place of a list -/
def Sits (xs : List (Int × Int)) (p : Nat) (x : Ex) : Prop := ∃ r, xs.drop p = x.flat ++ r
theorem flat_top (x : Ex) : ∃ r, x.flat = x.top :: r := by
  cases x <;> exact ⟨_, rfl⟩
theorem Sits.lt {xs : List (Int × Int)} {p : Nat} {x : Ex} (h : Sits xs p x) : p < xs.length := by
  obtain ⟨r, h⟩ := h
  obtain ⟨q, hq⟩ := flat_top x
  have := congrArg List.length h
  rw [hq] at this
  simp at this
  omega
theorem Sits.le {xs : List (Int × Int)} {p : Nat} {x : Ex} (h : Sits xs p x) : p + x.flat.length ≤ xs.length := by
  have h1 := h.lt
  obtain ⟨r, h⟩ := h
  have := congrArg List.length h
  simp at this
  omega
theorem Sits.top {xs : List (Int × Int)} {p : Nat} {x : Ex} (h : Sits xs p x) : toA xs p = x.top.1 ∧ wtA xs p = x.top.2 := by
  have h1 := h.lt
  obtain ⟨r, h⟩ := h
  obtain ⟨q, hq⟩ := flat_top x
  rw [drop_tm h1, hq, List.cons_append] at h
  injection h with h _
  rw [← h]
  exact ⟨rfl, rfl⟩
theorem Sits.end_ {xs : List (Int × Int)} {p : Nat} {x : Ex} (h : Sits xs p x) (hw : x.wf) : endF xs p = (p + x.flat.length : Nat) := by
  obtain ⟨r, h⟩ := h
  exact endF_some (by rw [h]; exact tree_eat x hw r)
theorem Sits.un {xs : List (Int × Int)} {p : Nat} {t : Int × Int} {a : Ex} (h : Sits xs p (.un t a)) : Sits xs (p + 1) a := by
  obtain ⟨r, h⟩ := h
  exact ⟨r, by rw [← List.drop_drop, h]; rfl⟩
theorem Sits.bi1 {xs : List (Int × Int)} {p : Nat} {t : Int × Int} {a b : Ex} (h : Sits xs p (.bi t a b)) : Sits xs (p + 1) a := by
  obtain ⟨r, h⟩ := h
  exact ⟨b.flat ++ r, by rw [← List.drop_drop, h, ← List.append_assoc]; rfl⟩
theorem Sits.bi2 {xs : List (Int × Int)} {p : Nat} {t : Int × Int} {a b : Ex} (h : Sits xs p (.bi t a b)) : Sits xs (p + 1 + a.flat.length) b := by
  obtain ⟨r, h⟩ := h
  refine ⟨r, ?_⟩
  have e : xs.drop (p + 1) = a.flat ++ (b.flat ++ r) := by
    rw [← List.drop_drop, h, ← List.append_assoc]
    rfl
  rw [← List.drop_drop, e, List.drop_left]
theorem Sits.c1 {xs : List (Int × Int)} {p : Nat} {t : Int × Int} {c a b : Ex} (h : Sits xs p (.cond t c a b)) : Sits xs (p + 1) c := by
  obtain ⟨r, h⟩ := h
  exact ⟨a.flat ++ b.flat ++ r, by rw [← List.drop_drop, h, ← List.append_assoc]; rfl⟩
theorem Sits.c2 {xs : List (Int × Int)} {p : Nat} {t : Int × Int} {c a b : Ex} (h : Sits xs p (.cond t c a b)) : Sits xs (p + 1 + c.flat.length) a := by
  obtain ⟨r, h⟩ := h
  refine ⟨b.flat ++ r, ?_⟩
  have e : xs.drop (p + 1) = c.flat ++ (a.flat ++ (b.flat ++ r)) := by
    rw [← List.drop_drop, h]
    show (c.flat ++ (a.flat ++ b.flat)) ++ r = _
    simp
  rw [← List.drop_drop, e, List.drop_left]
theorem Sits.c3 {xs : List (Int × Int)} {p : Nat} {t : Int × Int} {c a b : Ex} (h : Sits xs p (.cond t c a b)) : Sits xs (p + 1 + c.flat.length + a.flat.length) b := by
  obtain ⟨r, h⟩ := h
  refine ⟨r, ?_⟩
  have e : xs.drop (p + 1) = c.flat ++ (a.flat ++ (b.flat ++ r)) := by
    rw [← List.drop_drop, h]
    show (c.flat ++ (a.flat ++ b.flat)) ++ r = _
    simp
  rw [← List.drop_drop, ← List.drop_drop, e, List.drop_left, List.drop_left]
theorem opd_place {xs : List (Int × Int)} {p k : Nat} {x : Ex} (h : Sits xs p x) (hw : x.wf) (hk : (k : Int) < arF x.top.1) : opdF xs p k = placeF xs p k := by
  unfold opdF
  rw [h.end_ hw, Int.toNat_natCast, Int.toNat_natCast, h.top.1, if_neg]
  omega
theorem opd_bi {xs : List (Int × Int)} {p : Nat} {t : Int × Int} {a b : Ex} (h : Sits xs p (.bi t a b)) (hw : (Ex.bi t a b).wf) : opdF xs p 1 = (p + 1 + a.flat.length : Nat) := by
  have e := opd_place (k := 1) h hw (by show ((1 : Nat) : Int) < arF t.1; have := hw.1; omega)
  rw [show ((1 : Nat) : Int) = 1 from rfl] at e
  rw [e]
  show endF xs ((p : Int) + 1) = _
  rw [show (p : Int) + 1 = ((p + 1 : Nat) : Int) by omega]
  exact h.bi1.end_ hw.2.1
theorem opd_c2 {xs : List (Int × Int)} {p : Nat} {t : Int × Int} {c a b : Ex} (h : Sits xs p (.cond t c a b)) (hw : (Ex.cond t c a b).wf) : opdF xs p 1 = (p + 1 + c.flat.length : Nat) := by
  have e := opd_place (k := 1) h hw (by show ((1 : Nat) : Int) < arF t.1; have := hw.1; omega)
  rw [show ((1 : Nat) : Int) = 1 from rfl] at e
  rw [e]
  show endF xs ((p : Int) + 1) = _
  rw [show (p : Int) + 1 = ((p + 1 : Nat) : Int) by omega]
  exact h.c1.end_ hw.2.1
theorem opd_c3 {xs : List (Int × Int)} {p : Nat} {t : Int × Int} {c a b : Ex} (h : Sits xs p (.cond t c a b)) (hw : (Ex.cond t c a b).wf) : opdF xs p 2 = (p + 1 + c.flat.length + a.flat.length : Nat) := by
  have e := opd_place (k := 2) h hw (by show ((2 : Nat) : Int) < arF t.1; have := hw.1; omega)
  rw [show ((2 : Nat) : Int) = 2 from rfl] at e
  rw [e]
  show endF xs (endF xs ((p : Int) + 1)) = _
  rw [show (p : Int) + 1 = ((p + 1 : Nat) : Int) by omega, h.c1.end_ hw.2.1]
  exact h.c2.end_ hw.2.2.1
end Go.Proofs.YtdbahiepihkagaaGreatDoor
