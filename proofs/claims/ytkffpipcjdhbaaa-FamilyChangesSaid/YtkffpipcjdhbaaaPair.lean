/- What the methods of pairs of package family answer. -/
import Derived.Test.YtkffpipcjdhbaaaGraph9
import Derived.Test.YtkffpipcjdhbaaaKeep2
import Derived.Test.YtkffpipcjdhbaaaRefF8
namespace Go.Proofs.Ytkffpipcjdhbaaa
open Go.RowKit

/-- both ends of the k-th link of node u lie in S -/
def TogP (G : Gr) (S u k : Nat) : Prop := S.testBit u = true ∧ S.testBit (toA (rowA G.ps u) k).toNat = true
theorem hit_lnkP {S u d j : Nat} : Hit S j (lnk u d) ↔ (S.testBit u = true ∧ j = d) ∨ (S.testBit d = true ∧ j = u) := by
  unfold Hit lnk
  rcases Nat.le_total u d with h | h
  · rw [Nat.min_eq_left h, Nat.max_eq_right h]
  · simp only [Nat.min_eq_right h, Nat.max_eq_left h]
    exact Or.comm
theorem ind_iffP {G : Gr} {S : Nat} (hV : ValidG G) (hS : S < 2 ^ G.ps.length) : indB G S = true ↔ ∀ u, u < G.ps.length → ∀ k, k < (rowA G.ps u).length → ¬ TogP G S u k := by
  have h1 : S / 2 ^ G.ps.length = 0 := Nat.div_eq_of_lt hS
  unfold indB nbF
  rw [validB_mk hV, h1]
  simp only [if_true, Bool.true_and, beq_self_eq_true, beq_iff_eq]
  have h2 : (S &&& arF S (allLinks G G.ps.length) = 0) ↔ ∀ j, ¬ (S.testBit j = true ∧ ∃ p ∈ allLinks G G.ps.length, Hit S j p) := by
    constructor
    · intro h j ⟨h3, h4⟩
      have : (S &&& arF S (allLinks G G.ps.length)).testBit j = true := by rw [Nat.testBit_and, h3, arF_bit.2 h4]; rfl
      rw [h] at this
      simp at this
    · intro h
      apply Nat.eq_of_testBit_eq
      intro j
      rw [Nat.zero_testBit, Nat.testBit_and]
      cases h3 : S.testBit j
      · rfl
      · cases h4 : (arF S (allLinks G G.ps.length)).testBit j
        · rfl
        · exact absurd ⟨h3, arF_bit.1 h4⟩ (h j)
  rw [h2]
  constructor
  · intro h u hu k hk ⟨t1, t2⟩
    exact h _ ⟨t1, lnk u (toA (rowA G.ps u) k).toNat, mem_allLinks.2 ⟨u, hu, k, hk, rfl⟩, hit_lnkP.2 (.inr ⟨t2, rfl⟩)⟩
  · rintro h j ⟨h3, p, hp, hh⟩
    obtain ⟨u, hu, k, hk, rfl⟩ := mem_allLinks.1 hp
    rcases hit_lnkP.1 hh with ⟨h5, h6⟩ | ⟨h5, h6⟩
    · exact h u hu k hk ⟨h5, by rw [← h6]; exact h3⟩
    · exact h u hu k hk ⟨by rw [← h6]; exact h3, h5⟩
theorem linked_iff {G : Gr} {A B : Nat} (hV : ValidG G) (hA : A < G.ps.length) (hB : B < G.ps.length) : indB G (2 ^ A ||| 2 ^ B) = decide (portF (rowA G.ps A) B < 0) := by
  have hle := hV.le
  have hS : 2 ^ A ||| 2 ^ B < 2 ^ G.ps.length := Nat.or_lt_two_pow (Nat.pow_lt_pow_right (by decide) hA) (Nat.pow_lt_pow_right (by decide) hB)
  have hbit : ∀ j, (2 ^ A ||| 2 ^ B).testBit j = true ↔ j = A ∨ j = B := fun j => by
    rw [Nat.testBit_or, Nat.testBit_two_pow, Nat.testBit_two_pow]
    simp
    omega
  rw [Bool.eq_iff_iff, ind_iffP hV hS, decide_eq_true_iff]
  constructor
  · intro h
    rcases portF_cases (rowA G.ps A) B with ⟨e, _⟩ | ⟨k, hk, e, ht, _⟩
    · omega
    · exact absurd ⟨(hbit A).2 (.inl rfl), (hbit _).2 (.inr (by rw [ht, Int.toNat_natCast]))⟩ (h A hA k hk)
  · intro h u hu k hk ⟨t1, t2⟩
    have hlk := hV.links u hu k hk
    unfold LinkOk at hlk
    have h1 := (hbit u).1 t1
    have h2 := (hbit _).1 t2
    rcases portF_cases (rowA G.ps A) B with ⟨_, hn⟩ | ⟨k', _, e, _⟩
    · rcases h1 with rfl | rfl
      · exact hn k hk (by omega)
      · have hm := hV.mate u hu k hk
        unfold MateOk at hm
        rw [show (toA (rowA G.ps u) k).toNat = A by omega] at hm
        have : portF (rowA G.ps A) u = -1 := portF_none hn
        omega
    · omega

def inP (n : Nat) (a b : Int) : Bool := inB a 0 ((n : Int) - 1) && inB b 0 ((n : Int) - 1)
set_option maxHeartbeats 1000000 in
theorem pairIn_any (ia pa : Option Addr) (il ic pl pc : Nat) (a b : Int) (w : World) (hp : pl ≤ maxLen) :
    Calls Try.prog 56 #[.agg #[.int .i64 a, .int .i64 b], .agg #[.slice ia il ic, .slice pa pl pc]] w fun e w' => e = .returned (.bool (inP pl a b)) ∧ Below w.heap.size w w' := by
  unfold maxLen at hp
  have Hv : Hid (∀ t : Bool, (t = true ↔ (0 ≤ a ∧ 0 ≤ b ∧ a < pl ∧ b < pl)) → t = inP pl a b) := Lib.hid (fun t h => by
    rw [Bool.eq_iff_iff, h]
    simp [inP, inB]
    omega)
  by_cases hab : a ≤ b
  all_goals by_cases h0 : 0 ≤ a
  all_goals by_cases h1 : 0 ≤ b
  all_goals by_cases h2 : a < pl
  all_goals by_cases h3 : b < pl
  all_goals first
    | omega
    | (go_enter Try.func56, Try.ntmps56
       go_wp2
       all_goals go_ret
       all_goals exact ⟨ret_bool (Hv.out _ (by simp <;> omega)), ((Below.refl _ _).alloc (Nat.le_refl _) _).alloc (by simp) _⟩)
set_option maxHeartbeats 2000000 in
theorem pairLinked_any (ia pa : Option Addr) (il ic pl pc : Nat) (G : Gr) (A B : Nat) (w : World) (hG : GraphAt w ia il pa pl G) (hV : ValidG G) (hA : A < pl) (hB : B < pl) :
    Calls Try.prog 57 #[.agg #[.int .i64 A, .int .i64 B], .agg #[.slice ia il ic, .slice pa pl pc]] w fun e w' => e = .returned (.bool (!(decide (portF (rowA G.ps A) B < 0)))) ∧ Below w.heap.size w w' := by
  have hpl := hG.pl
  have hle := hV.le
  have hA24 : A < 24 := by omega
  have hB24 : B < 24 := by omega
  have hl := linked_iff hV (by omega : A < G.ps.length) (by omega : B < G.ps.length)
  have hbel0 : Below w.heap.size w ((w.alloc (.cells #[.int .i64 A, .int .i64 B] 54)).alloc (.cells #[.slice ia il ic, .slice pa pl pc] 26)) := ((Below.refl _ _).alloc (Nat.le_refl _) _).alloc (by simp) _
  have HG := Lib.hid (hG.below hbel0)
  have eA := shl1 (d := A) (by omega)
  have eB := shl1 (d := B) (by omega)
  have eO : bits .or .u32 ((2 : Int) ^ A % 4294967296) ((2 : Int) ^ B % 4294967296) = ((2 ^ A ||| 2 ^ B : Nat) : Int) := by
    rw [eA, eB, u32_or_nat _ _ (pow32 (by omega)) (pow32 (by omega))]
  have hlt : 2 ^ A ||| 2 ^ B < 4294967296 := or_lt (pow32 (by omega)) (pow32 (by omega))
  have HO := Lib.hid eO
  have HL := Lib.hid hl
  have Hlt := Lib.hid hlt
  clear hG hV eA eB eO hl hlt hpl hle hbel0
  go_enter Try.func57, Try.ntmps57
  go_wp2
  obtain ⟨W, hW⟩ : ∃ x, x = (w.alloc (.cells #[.int .i64 A, .int .i64 B] 54)).alloc (.cells #[.slice ia il ic, .slice pa pl pc] 26) := ⟨_, rfl⟩
  have x0 : W.cell? ⟨w.heap.size, 0, none⟩ = some (.int .i64 A) := by rw [hW]; simp [cell_push0]
  have x1 : W.cell? ⟨w.heap.size, 1, none⟩ = some (.int .i64 B) := by rw [hW]; simp [cell_push0]
  have x2 : W.cell? ⟨w.heap.size + 1, 0, none⟩ = some (.slice ia il ic) := by rw [hW]; simp [cell_push0]
  have x3 : W.cell? ⟨w.heap.size + 1, 1, none⟩ = some (.slice pa pl pc) := by rw [hW]; simp [cell_push0]
  have hb0 : Below w.heap.size w W := by rw [hW]; exact ((Below.refl _ _).alloc (Nat.le_refl _) _).alloc (by simp) _
  rw [← hW] at HG ⊢
  clear hW
  refine keep_start (fun w' => w'.cell? ⟨w.heap.size, 0, none⟩ = some (.int .i64 A) ∧ w'.cell? ⟨w.heap.size, 1, none⟩ = some (.int .i64 B) ∧ w'.cell? ⟨w.heap.size + 1, 0, none⟩ = some (.slice ia il ic) ∧ w'.cell? ⟨w.heap.size + 1, 1, none⟩ = some (.slice pa pl pc)) [] (by kernel_rfl) ?_
  (refine keep_load 0 (v := ?_) rfl (by kernel_rfl) (by kernel_rfl) (by kernel_rfl) (by kernel_rfl) (by kernel_rfl) (by kernel_rfl) (fun _ _ _ h => h) (Or.inl ⟨by rfl, ?_⟩) (by exact ⟨x0, x1, x2, x3⟩) ?_; rotate_left 1; focus (intro _ hSw; (first | (obtain ⟨_, _, _, _, _⟩ := hSw) | (obtain ⟨_, _, _, _⟩ := hSw) | (obtain ⟨_, _, _⟩ := hSw) | (obtain ⟨_, _⟩ := hSw) | skip); go_simp; (try go_ints); try (with_reducible rfl)); (try simp only [Act.put, List.setIfInBounds_toArray, List.set_cons_zero, List.set_cons_succ]))
  (refine keep_pure 1 (v := ?_) rfl (by kernel_rfl) (by kernel_rfl) (by kernel_rfl) (by kernel_rfl) (fun _ _ _ h => h) (Or.inl ⟨by rfl, ?_⟩) (.inr (by exact ⟨x0, x1, x2, x3⟩)) ?_; rotate_left 1; focus (intro _; go_simp; (try go_ints); try (with_reducible rfl)); (try simp only [Act.put, List.setIfInBounds_toArray, List.set_cons_zero, List.set_cons_succ]))
  (refine keep_load 2 (v := ?_) rfl (by kernel_rfl) (by kernel_rfl) (by kernel_rfl) (by kernel_rfl) (by kernel_rfl) (by kernel_rfl) (fun _ _ _ h => h) (Or.inl ⟨by rfl, ?_⟩) (by exact ⟨x0, x1, x2, x3⟩) ?_; rotate_left 1; focus (intro _ hSw; (first | (obtain ⟨_, _, _, _, _⟩ := hSw) | (obtain ⟨_, _, _, _⟩ := hSw) | (obtain ⟨_, _, _⟩ := hSw) | (obtain ⟨_, _⟩ := hSw) | skip); go_simp; (try go_ints); try (with_reducible rfl)); (try simp only [Act.put, List.setIfInBounds_toArray, List.set_cons_zero, List.set_cons_succ]))
  (refine keep_pure 3 (v := ?_) rfl (by kernel_rfl) (by kernel_rfl) (by kernel_rfl) (by kernel_rfl) (fun _ _ _ h => h) (Or.inl ⟨by rfl, ?_⟩) (.inr (by exact ⟨x0, x1, x2, x3⟩)) ?_; rotate_left 1; focus (intro _; go_simp; (try go_ints); try (with_reducible rfl)); (try simp only [Act.put, List.setIfInBounds_toArray, List.set_cons_zero, List.set_cons_succ]))
  (refine keep_pure 4 (v := ?_) rfl (by kernel_rfl) (by kernel_rfl) (by kernel_rfl) (by kernel_rfl) (fun _ _ _ h => h) (Or.inl ⟨by rfl, ?_⟩) (.inr (by exact ⟨x0, x1, x2, x3⟩)) ?_; rotate_left 1; focus (intro _; go_simp; (try go_ints); try (with_reducible rfl)); (try simp only [Act.put, List.setIfInBounds_toArray, List.set_cons_zero, List.set_cons_succ]))
  (refine keep_load 5 (v := ?_) rfl (by kernel_rfl) (by kernel_rfl) (by kernel_rfl) (by kernel_rfl) (by kernel_rfl) (by kernel_rfl) (fun _ _ _ h => h) (Or.inl ⟨by rfl, ?_⟩) (by exact ⟨x0, x1, x2, x3⟩) ?_; rotate_left 1; focus (intro _ hSw; (first | (obtain ⟨_, _, _, _, _⟩ := hSw) | (obtain ⟨_, _, _, _⟩ := hSw) | (obtain ⟨_, _, _⟩ := hSw) | (obtain ⟨_, _⟩ := hSw) | skip); go_simp; (try go_ints); try (with_reducible rfl)); (try simp only [Act.put, List.setIfInBounds_toArray, List.set_cons_zero, List.set_cons_succ]))
  (refine keep_pure 6 (v := ?_) rfl (by kernel_rfl) (by kernel_rfl) (by kernel_rfl) (by kernel_rfl) (fun _ _ _ h => h) (Or.inl ⟨by rfl, ?_⟩) (.inr (by exact ⟨x0, x1, x2, x3⟩)) ?_; rotate_left 1; focus (intro _; go_simp; (try go_ints); try (with_reducible rfl)); (try simp only [Act.put, List.setIfInBounds_toArray, List.set_cons_zero, List.set_cons_succ]))
  (refine keep_pure 7 (v := ?_) rfl (by kernel_rfl) (by kernel_rfl) (by kernel_rfl) (by kernel_rfl) (fun _ _ _ h => h) (Or.inl ⟨by rfl, ?_⟩) (.inr (by exact ⟨x0, x1, x2, x3⟩)) ?_; rotate_left 1; focus (intro _; go_simp; (try go_ints); try (with_reducible rfl)); (try simp only [Act.put, List.setIfInBounds_toArray, List.set_cons_zero, List.set_cons_succ]))
  (refine keep_one 8 (by kernel_rfl) rfl ?_)
  intro K hK
  go_simp
  rw [HO.out]
  have hbd : Below W.heap.size W W.drew := belDraws (Below.refl _ _) 1
  refine (independent_any _ _ _ _ _ _ G _ _ (HG.out.below hbd) Hlt.out).mono ?_
  rintro e w2 ⟨rfl, hb2⟩
  rw [HL.out]
  have hb3 := hbd.trans (hb2.mono hbd.size)
  have hs0 := hb0.size
  have l0 := cell_lt x0
  have l2 := cell_lt x2
  have y0 := (hb3.cell (p := ⟨w.heap.size, 0, none⟩) l0).trans x0
  have y1 := (hb3.cell (p := ⟨w.heap.size, 1, none⟩) l0).trans x1
  have y2 := (hb3.cell (p := ⟨w.heap.size + 1, 0, none⟩) l2).trans x2
  have y3 := (hb3.cell (p := ⟨w.heap.size + 1, 1, none⟩) l2).trans x3
  refine hK _ _ (fun _ => (by exact ⟨y0, y1, y2, y3⟩)) ?_
  clear hK K
  (try simp only [Act.put, List.setIfInBounds_toArray, List.set_cons_zero, List.set_cons_succ])
  (refine keep_pure 9 (v := ?_) rfl (by kernel_rfl) (by kernel_rfl) (by kernel_rfl) (by kernel_rfl) (fun _ _ _ h => h) (Or.inl ⟨by rfl, ?_⟩) (.inr (by exact ⟨y0, y1, y2, y3⟩)) ?_; rotate_left 1; focus (intro _; go_simp; (try go_ints); try (with_reducible rfl)); (try simp only [Act.put, List.setIfInBounds_toArray, List.set_cons_zero, List.set_cons_succ]))
  (refine keep_pure 10 (v := ?_) rfl (by kernel_rfl) (by kernel_rfl) (by kernel_rfl) (by kernel_rfl) (fun _ _ _ h => h) (Or.inl ⟨by rfl, ?_⟩) (.inr (by exact ⟨y0, y1, y2, y3⟩)) ?_; rotate_left 1; focus (intro _; go_simp; (try go_ints); try (with_reducible rfl)); (try simp only [Act.put, List.setIfInBounds_toArray, List.set_cons_zero, List.set_cons_succ]))
  (refine keep_done (by kernel_rfl) ?_)
  go_wp2
  go_ret
  exact ⟨rfl, hb0.trans (hb3.mono hb0.size)⟩
end Go.Proofs.Ytkffpipcjdhbaaa
