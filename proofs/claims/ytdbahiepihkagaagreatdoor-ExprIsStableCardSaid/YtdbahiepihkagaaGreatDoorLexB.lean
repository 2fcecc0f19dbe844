/- What the tests of single bytes answer, of the program and of the specification. -/
import Derived.Test.YtdbahiepihkagaaGreatDoorTermP2
import Derived.Test.YtdbahiepihkagaaGreatDoorRows
import Derived.Test.YtdbahiepihkagaaGreatDoorBase
namespace Go.Proofs.YtdbahiepihkagaaGreatDoor
set_option maxRecDepth 100000
open Go.RowKit

theorem valid1_any (op x vars : Int) (vb : Nat) (w : World) (hv : w.cell? ⟨vb, 0, none⟩ = some (.int .i64 vars)) (hlt : vb < w.heap.size) (h64 : I64 vars) :
    Calls Tryz.prog 71 #[.agg #[.int .i64 op, .int .i64 x], .pointer (some ⟨vb, 0, none⟩)] w fun e w' => e = .returned (.bool (!argB (op, x) vars)) ∧ Below w.heap.size w w' := by
  have hB0 := (Below.refl w.heap.size w).alloc (Nat.le_refl _) (.cells #[.int .i64 op, .int .i64 x] 55)
  have hvb := (hB0.cell (p := ⟨vb, 0, none⟩) hlt).trans hv
  have HR := Lib.hid (rangeP_any op x vars (w.alloc (.cells #[.int .i64 op, .int .i64 x] 55)) h64)
  generalize argB (op, x) vars = b at HR ⊢
  clear hB0
  go_enter Tryz.func71, Tryz.ntmps71
  go_wp2_with (go_at_call 72; refine HR.out.mono ?_; rintro e w1 ⟨rfl, hb1⟩)
  go_ret
  exact ⟨rfl, belT hb1⟩

set_option maxHeartbeats 400000 in
theorem idxT_any (la : Option Addr) (lc : Nat) (xs : List (Int × Int)) (vars : Int) (vb : Nat) (w : World) (hL : LinksAt w la xs) (hv : w.cell? ⟨vb, 0, none⟩ = some (.int .i64 vars)) (hvb : vb < w.heap.size) (h64 : I64 vars) :
    Calls Tryz.prog 137 #[.slice la xs.length lc, .func (Fn.func 71) #[] #[.pointer (some ⟨vb, 0, none⟩)]] w fun e w' => (∃ z : Int, e = .returned (.int .i64 z) ∧ decide (z ≥ 0) = !(xs.all fun t => argB t vars)) ∧ Below w.heap.size w w' := by
  have hlm := hL.size
  unfold maxLen at hlm
  go_enter Tryz.func137, Tryz.ntmps137
  go_wp2
  go_loopw [8] (fun t wr => ∃ k : Nat, k ≤ xs.length ∧ t = .int .i64 k ∧ (∀ j, j < k → argB (toA xs j, wtA xs j) vars = true) ∧ Below w.heap.size w wr) (fun t _ => xs.length - (intOf t).toNat)
  case atStart => exact ⟨0, Nat.zero_le _, rfl, fun j hj => absurd hj (by omega), Below.refl _ _⟩
  case round =>
    obtain ⟨k, hk, rfl, hn, hbel⟩ := hrel
    have Hn := Lib.hid hn
    have Hv := Lib.hid hv
    clear hn hv
    by_cases hlt : k < xs.length
    · obtain ⟨lb, lo, rfl, hlb, hcs⟩ := (hL.below hbel).row (by omega)
      have hck1 := (hcs k hlt).1
      have hck2 := (hcs k hlt).2
      have HX := Lib.hid hcs
      clear hcs
      have HR := Lib.hid (valid1_any (toA xs k) (wtA xs k) vars vb wr ((hbel.cell (p := ⟨vb, 0, none⟩) hvb).trans Hv.out) (Nat.lt_of_lt_of_le hvb hbel.size) h64)
      cases he : argB (toA xs k, wtA xs k) vars with
      | false =>
        have Hp : Hid (decide ((k : Int) ≥ 0) = !(xs.all fun t => argB t vars)) := Lib.hid (by rw [not_all hlt he]; simp)
        rw [he] at HR
        clear he
        generalize toA xs k = op at hck1 HR
        generalize wtA xs k = x at hck2 HR
        go_wp2_with (go_at_call 71; refine HR.out.mono ?_; rintro e w2 ⟨rfl, hb2⟩)
        go_ret
        exact ⟨⟨_, rfl, Hp.out⟩, hbel.trans (hb2.mono hbel.size)⟩
      | true =>
        have He := Lib.hid he
        have HR2 := HR
        rw [he] at HR2
        clear he HR
        obtain ⟨op, hop⟩ : ∃ op, toA xs k = op := ⟨_, rfl⟩
        obtain ⟨x, hx⟩ : ∃ x, wtA xs k = x := ⟨_, rfl⟩
        rw [hop] at hck1 HR2
        rw [hx] at hck2 HR2
        clear hop hx
        go_wp2_with (go_at_call 71; refine HR2.out.mono ?_; rintro e w2 ⟨rfl, hb2⟩)
        go_roundw
        case rel => exact ⟨k + 1, by omega, by go_num, fun j hj => by
          rcases Nat.lt_or_ge j k with h | h
          · exact Hn.out j h
          · rw [show j = k by omega]; exact He.out, hbel.trans (hb2.mono hbel.size)⟩
        case measure => simp [intOf]; omega
    · have Hp : Hid (decide ((-1 : Int) ≥ 0) = !(xs.all fun t => argB t vars)) := Lib.hid (by rw [all_upto (fun j hj => Hn.out j (by omega))]; rfl)
      go_wp2
      go_ret
      exact ⟨⟨_, rfl, Hp.out⟩, hbel⟩
theorem contT_any (la : Option Addr) (lc : Nat) (xs : List (Int × Int)) (vars : Int) (vb : Nat) (w : World) (hL : LinksAt w la xs) (hv : w.cell? ⟨vb, 0, none⟩ = some (.int .i64 vars)) (hvb : vb < w.heap.size) (h64 : I64 vars) :
    Calls Tryz.prog 70 #[.slice la xs.length lc, .func (Fn.func 71) #[] #[.pointer (some ⟨vb, 0, none⟩)]] w fun e w' => e = .returned (.bool (!(xs.all fun t => argB t vars))) ∧ Below w.heap.size w w' := by
  have HI := Lib.hid (idxT_any la lc xs vars vb w hL hv hvb h64)
  generalize (!(xs.all fun t => argB t vars)) = b at HI ⊢
  generalize xs.length = m at HI ⊢
  clear hL hv hvb h64
  go_enter Tryz.func70, Tryz.ntmps70
  go_wp2_with (go_at_call 137; refine HI.out.mono ?_; rintro e w1 ⟨⟨z, rfl, hz⟩, hb1⟩)
  go_ret
  exact ⟨by first | rfl | exact ret_bool hz, hb1⟩

set_option maxHeartbeats 1000000 in
theorem validP_any (a : Option Addr) (c : Nat) (xs : List (Int × Int)) (vars : Int) (w : World) (hX : LinksAt w a xs) (hn : xs.length ≤ 1000) (h64 : I64 vars) :
    Calls Tryz.prog 36 #[.slice a xs.length c, .int .i64 vars] w fun e w' => e = .returned (.bool (validE xs vars)) ∧ Below w.heap.size w w' := by
  have hB0 := (Below.refl w.heap.size w).alloc (Nat.le_refl _) (.cells #[.int .i64 vars] 3)
  have HB0 := Lib.hid hB0
  have HE := Lib.hid (endP_any a c xs 0 (w.alloc (.cells #[.int .i64 vars] 3)) (hX.below hB0) (by omega))
  have HD := Lib.hid (fun (W : World) (hb : Below w.heap.size w W) => depthP_any a c xs W (hX.below hb) hn)
  have HN := Lib.hid (fun (W : World) (hb : Below w.heap.size w W) => nestP_any a c xs W (hX.below hb) hn)
  have HC := Lib.hid (fun (W : World) (hb : Below w.heap.size w W) (hc : W.cell? ⟨w.heap.size, 0, none⟩ = some (.int .i64 vars)) (hl : w.heap.size < W.heap.size) => contT_any a c xs vars w.heap.size W (hX.below hb) hc hl h64)
  have h1 : oneB xs = (endF xs 0 == xs.length) := one_end xs
  obtain ⟨V, hV⟩ : ∃ V, V = validE xs vars := ⟨_, rfl⟩
  rw [← hV]
  unfold validE at hV
  rw [h1] at hV
  obtain ⟨A, hA⟩ : ∃ A, A = xs.all fun t => argB t vars := ⟨_, rfl⟩
  rw [← hA] at hV HC
  clear hA h1 hX hB0
  generalize depF xs = d at HD hV
  generalize nesF xs = n at HN hV
  generalize endF xs 0 = z at HE hV
  generalize xs.length = m at HE HD HN HC hn hV ⊢
  by_cases q1 : m ≤ 200
  case neg =>
    have hf : V = false := by rw [hV]; simp [q1]
    have d1 : decide ((m : Int) > 200) = true := by simp; omega
    clear hV
    go_enter Tryz.func36, Tryz.ntmps36
    go_wp2
    go_ret
    exact ⟨ret_bool hf.symm, by first | exact HB0.out | exact belDraws HB0.out _⟩
  have d1 : decide ((m : Int) > 200) = false := by simp; omega
  have d1' : decide (200 < m) = false := by simp; omega
  by_cases q2 : z = m
  case neg =>
    have hf : V = false := by rw [hV]; simp [q2]
    have d2 : (z != m) = true := by simpa using q2
    clear hV q2
    go_enter Tryz.func36, Tryz.ntmps36
    go_wp2_with (go_at_call 67; refine HE.out.mono ?_; rintro e w1 ⟨rfl, hb1⟩)
    go_ret
    exact ⟨ret_bool hf.symm, belT hb1⟩
  have d2 : (z != m) = false := by simpa using q2
  have q2' : (z == m) = true := by simpa using q2
  rw [q2'] at hV
  clear q2 q2'
  by_cases q3 : d ≤ 24
  case neg =>
    have hf : V = false := by rw [hV]; simp [q3]
    have d3 : decide (d > 24) = true := by simp; omega
    clear hV
    go_enter Tryz.func36, Tryz.ntmps36
    go_wp2_with (first | (go_at_call 67; refine HE.out.mono ?_; rintro e w1 ⟨rfl, hb1⟩; have hb2 := belT hb1) | (go_at_call 68; refine (HD.out _ hb2).mono ?_; rintro e w3 ⟨rfl, hb3⟩))
    go_ret
    exact ⟨ret_bool hf.symm, hb2.trans (hb3.mono hb2.size)⟩
  have d3 : decide (d > 24) = false := by simp; omega
  by_cases q4 : n ≤ 2
  case neg =>
    have hf : V = false := by rw [hV]; simp [q4]
    have d4 : decide (n > 2) = true := by simp; omega
    clear hV
    go_enter Tryz.func36, Tryz.ntmps36
    go_wp2_with (first | (go_at_call 67; refine HE.out.mono ?_; rintro e w1 ⟨rfl, hb1⟩; have hb2 := belT hb1) | (go_at_call 68; refine (HD.out _ hb2).mono ?_; rintro e w3 ⟨rfl, hb3⟩; have hb4 := hb2.trans (hb3.mono hb2.size)) | (go_at_call 69; refine (HN.out _ hb4).mono ?_; rintro e w5 ⟨rfl, hb5⟩))
    go_ret
    exact ⟨ret_bool hf.symm, hb4.trans (hb5.mono hb4.size)⟩
  have d4 : decide (n > 2) = false := by simp; omega
  have hf : V = A := by rw [hV]; simp [q1, q3, q4]
  have HF := Lib.hid hf
  clear hV hf
  go_enter Tryz.func36, Tryz.ntmps36
  go_wp2_with (first | (go_at_call 67; refine HE.out.mono ?_; rintro e w1 ⟨rfl, hb1⟩; have hb2 := belT hb1) | (go_at_call 68; refine (HD.out _ hb2).mono ?_; rintro e w3 ⟨rfl, hb3⟩; have hb4 := hb2.trans (hb3.mono hb2.size)) | (go_at_call 69; refine (HN.out _ hb4).mono ?_; rintro e w5 ⟨rfl, hb5⟩; have hb6 := hb4.trans (hb5.mono hb4.size); have hb7 := hb1.trans ((hb3.mono hb1.size).trans (hb5.mono (Nat.le_trans hb1.size hb3.size))); have hc7 : w5.cell? ⟨w.heap.size, 0, none⟩ = some (.int .i64 vars) := boxT hb7 0; have hl7 : w.heap.size < w5.heap.size := by have h := hb7.size; rw [World.size_alloc] at h; omega) | (go_at_call 70; refine (HC.out _ hb6 hc7 hl7).mono ?_; rintro e w8 ⟨rfl, hb8⟩))
  go_ret
  exact ⟨ret_bool (by rw [HF.out] <;> simp), hb6.trans (hb8.mono hb6.size)⟩
end Go.Proofs.YtdbahiepihkagaaGreatDoor
namespace Go.Proofs.YtdbahiepihkagaaGreatDoor

abbrev Bytes := List UInt8

/-! ### Kinds of bytes -/
def isBl (b : UInt8) : Bool := b == 32 || b == 9 || b == 10 || b == 13
def isLet (b : UInt8) : Bool := (decide (97 ≤ b.toNat) && decide (b.toNat ≤ 122)) || (decide (65 ≤ b.toNat) && decide (b.toNat ≤ 90))
def isDgt (b : UInt8) : Bool := decide (48 ≤ b.toNat) && decide (b.toNat ≤ 57)
def isIn (b : UInt8) : Bool := isLet b || isDgt b || b == 95
def isOne (b : UInt8) : Bool := b == 59 || b == 58 || b == 44 || b == 40 || b == 41 || b == 46 || b == 63 || b == 60 || b == 62 || b == 43 || b == 45 || b == 42 || b == 47 || b == 37 || b == 33
def twos : List Bytes := [[46, 46], [45, 62], [58, 61], [38, 38], [124, 124], [61, 61], [33, 61], [60, 61], [62, 61]]
/-- what may stand behind a token without changing it -/
def isSep (b : UInt8) : Bool := b == 32 || b == 10 || b == 9 || b == 35

/-! ### Gaps and runs -/
def gapF : Bool → Bytes → Nat
  | _, [] => 0
  | c, x :: l => if (x == 35 || (c && x != 10)) || isBl x then gapF (x == 35 || (c && x != 10)) l + 1 else 0
def runF (p : UInt8 → Bool) : Bytes → Nat
  | [] => 0
  | x :: l => if p x then runF p l + 1 else 0

theorem gap_le : ∀ (c : Bool) (l : Bytes), gapF c l ≤ l.length
  | _, [] => Nat.le_refl _
  | c, x :: l => by
    unfold gapF
    have := gap_le (x == 35 || (c && x != 10)) l
    split <;> simp <;> omega
theorem run_le (p : UInt8 → Bool) : ∀ l : Bytes, runF p l ≤ l.length
  | [] => Nat.le_refl _
  | x :: l => by
    unfold runF
    have := run_le p l
    split <;> simp <;> omega
theorem gap_take : ∀ (m : Nat) (c : Bool) (l : Bytes), gapF c (l.take m) = min m (gapF c l)
  | 0, c, l => by simp [gapF]
  | m + 1, c, [] => by simp [gapF]
  | m + 1, c, x :: l => by
    rw [List.take_succ_cons]
    unfold gapF
    rw [gap_take m]
    split <;> omega
theorem run_take (p : UInt8 → Bool) : ∀ (m : Nat) (l : Bytes), runF p (l.take m) = min m (runF p l)
  | 0, l => by simp [runF]
  | m + 1, [] => by simp [runF]
  | m + 1, x :: l => by
    rw [List.take_succ_cons]
    unfold runF
    rw [run_take p m]
    split <;> omega
theorem gap_app : ∀ (c : Bool) (l m : Bytes), gapF c l < l.length → gapF c (l ++ m) = gapF c l
  | _, [], _, h => by simp at h
  | c, x :: l, m, h => by
    unfold gapF at h ⊢
    rw [List.cons_append]
    dsimp only
    split at h
    · rename_i h1
      rw [if_pos h1, if_pos h1, gap_app _ l m (by simp at h; omega)]
    · rename_i h1
      rw [if_neg h1, if_neg h1]
theorem gap_app_le : ∀ (c : Bool) (l m : Bytes), gapF c l = l.length → l.length ≤ gapF c (l ++ m)
  | _, [], _, _ => Nat.zero_le _
  | c, x :: l, m, h => by
    unfold gapF at h ⊢
    rw [List.cons_append]
    dsimp only
    split at h
    · rename_i h1
      rw [if_pos h1]
      have := gap_app_le _ l m (by simpa using h)
      simp
      exact this
    · simp at h
theorem run_app (p : UInt8 → Bool) {b : UInt8} (hb : p b = false) : ∀ (l m : Bytes), runF p (l ++ b :: m) = runF p l
  | [], m => by simp [runF, hb]
  | x :: l, m => by
    rw [List.cons_append]
    unfold runF
    rw [run_app p hb l m]
/-- the byte at which a gap ends -/
theorem gap_stop : ∀ (c : Bool) (l : Bytes) (x : UInt8) (r : Bytes), l.drop (gapF c l) = x :: r → isBl x = false ∧ (x == 35) = false
  | _, [], x, r, h => by simp at h
  | c, y :: l, x, r, h => by
    unfold gapF at h
    split at h
    · rw [List.drop_succ_cons] at h
      exact gap_stop _ l x r h
    · rename_i h1
      simp at h
      obtain ⟨rfl, rfl⟩ := h
      simp at h1
      simp [h1]
theorem gap_none {x : UInt8} {l : Bytes} (h1 : isBl x = false) (h2 : (x == 35) = false) : gapF false (x :: l) = 0 := by
  unfold gapF
  simp [h1, h2]
theorem run_all (p : UInt8 → Bool) : ∀ (l : Bytes), ∀ b ∈ l.take (runF p l), p b = true
  | [], b, h => by simp at h
  | x :: l, b, h => by
    unfold runF at h
    split at h
    · rename_i hx
      rw [List.take_succ_cons] at h
      rcases List.mem_cons.1 h with rfl | h
      · exact hx
      · exact run_all p l b h
    · simp at h

/-! ### Signs, numbers, tokens -/
def signF : Bytes → Nat
  | [] => 0
  | x :: l => if twos.contains ((x :: l).take 2) then 2 else if isOne x then 1 else 0
theorem sign_cons (x : UInt8) (l : Bytes) : signF (x :: l) = if twos.contains ((x :: l).take 2) then 2 else if isOne x then 1 else 0 := rfl
def valF (l : Bytes) : Nat := l.foldl (fun v b => 10 * v + (b.toNat - 48)) 0
theorem val_snoc (l : Bytes) (b : UInt8) : valF (l ++ [b]) = 10 * valF l + (b.toNat - 48) := by simp [valF]
structure Tk where
  kind : Nat
  len : Nat
  num : Nat
deriving DecidableEq
/-- what stands at the head of l: an error, or a token -/
def tokF (l : Bytes) : Nat ⊕ Tk :=
  match l with
  | [] => .inl 4
  | x :: r =>
    if isLet x then (if 24 < runF isIn (x :: r) then .inl 5 else .inr ⟨1, runF isIn (x :: r), 0⟩)
    else if isDgt x then (if (x == 48 && decide (1 < runF isDgt (x :: r))) || decide (1073741824 < valF ((x :: r).take (runF isDgt (x :: r)))) then .inl 2 else .inr ⟨2, runF isDgt (x :: r), valF ((x :: r).take (runF isDgt (x :: r)))⟩)
    else if signF (x :: r) = 0 then .inl 4 else .inr ⟨3, signF (x :: r), 0⟩

theorem two_len {l : Bytes} (h : twos.contains l = true) : l.length = 2 := by
  simp [twos] at h
  rcases h with rfl | rfl | rfl | rfl | rfl | rfl | rfl | rfl | rfl <;> rfl
theorem two_sep {x b : UInt8} (hb : isSep b = true) : twos.contains [x, b] = false := by
  simp [isSep] at hb
  rcases hb with ((rfl | rfl) | rfl) | rfl <;> simp [twos]
theorem sep_in {b : UInt8} (hb : isSep b = true) : isIn b = false ∧ isDgt b = false := by
  simp [isSep] at hb
  rcases hb with ((rfl | rfl) | rfl) | rfl <;> decide
theorem two_one {x : UInt8} : twos.contains [x] = false := by simp [twos]
theorem sign_le (l : Bytes) : signF l ≤ l.length := by
  cases l with
  | nil => exact Nat.zero_le _
  | cons x l =>
    rw [sign_cons]
    split
    · rename_i h
      have := two_len h
      simp at this ⊢
      omega
    · split <;> simp
theorem sign_take {l : Bytes} {m : Nat} (h : signF l ≤ m) (h0 : 0 < m) : signF (l.take m) = signF l := by
  cases l with
  | nil => simp
  | cons x l =>
    obtain ⟨m, rfl⟩ : ∃ k, m = k + 1 := ⟨m - 1, by omega⟩
    rw [List.take_succ_cons]
    rw [sign_cons] at h
    rw [sign_cons, sign_cons]
    by_cases h1 : 1 ≤ m
    · have e : (x :: l.take m).take 2 = (x :: l).take 2 := by
        rw [List.take_succ_cons, List.take_succ_cons, List.take_take]
        congr 2
        omega
      rw [e]
    · obtain rfl : m = 0 := by omega
      split at h
      · omega
      · rename_i h1
        have e : (x :: l.take 0).take 2 = [x] := by simp
        rw [if_neg h1, e, two_one]
        rfl
theorem sign_app {x b : UInt8} {l m : Bytes} (hb : isSep b = true) : signF ((x :: l) ++ b :: m) = signF (x :: l) := by
  rw [List.cons_append]
  rw [sign_cons, sign_cons]
  cases l with
  | nil =>
    have e : (x :: ([] ++ b :: m)).take 2 = [x, b] := rfl
    rw [e, two_sep hb]
    have e2 : ([x] : Bytes).take 2 = [x] := rfl
    rw [e2, two_one]
  | cons y l => rfl

theorem in_let {x : UInt8} (h : isLet x = true) : isIn x = true := by simp [isIn, h]
theorem tok_len {l : Bytes} {t : Tk} (h : tokF l = .inr t) : 1 ≤ t.len ∧ t.len ≤ l.length := by
  unfold tokF at h
  split at h
  · cases h
  · rename_i x r
    split at h
    · rename_i hx
      split at h
      · cases h
      · injection h with h
        subst h
        have h1 := run_le isIn (x :: r)
        have h2 : runF isIn (x :: r) = runF isIn r + 1 := by rw [runF, if_pos (in_let hx)]
        exact ⟨by dsimp only; omega, h1⟩
    · split at h
      · rename_i hx
        split at h
        · cases h
        · injection h with h
          subst h
          have h1 := run_le isDgt (x :: r)
          have h2 : runF isDgt (x :: r) = runF isDgt r + 1 := by rw [runF, if_pos hx]
          exact ⟨by dsimp only; omega, h1⟩
      · split at h
        · cases h
        · rename_i h1
          injection h with h
          subst h
          exact ⟨by dsimp only; omega, sign_le (x :: r)⟩
theorem take_pos {x : UInt8} {r : Bytes} {m : Nat} (h : 0 < m) : (x :: r).take m = x :: r.take (m - 1) := by
  obtain ⟨m, rfl⟩ : ∃ k, m = k + 1 := ⟨m - 1, by omega⟩
  rfl
/-- a token does not hang on what stands behind it -/
theorem tok_take {l : Bytes} {t : Tk} {m : Nat} (h : tokF l = .inr t) (hm : t.len ≤ m) : tokF (l.take m) = .inr t := by
  have hl := tok_len h
  have h0 : 0 < m := by omega
  cases l with
  | nil => cases h
  | cons x r =>
    rw [take_pos h0]
    have hin := run_take isIn m (x :: r)
    have hdg := run_take isDgt m (x :: r)
    rw [take_pos h0] at hin hdg
    unfold tokF at h ⊢
    dsimp only at h ⊢
    split at h
    · rename_i hx
      rw [if_pos hx]
      split at h
      · cases h
      · rename_i h1
        injection h with h
        subst h
        dsimp only at hm
        rw [hin, Nat.min_eq_right hm, if_neg h1]
    · rename_i hx
      rw [if_neg hx]
      split at h
      · rename_i hd
        rw [if_pos hd]
        split at h
        · cases h
        · rename_i h1
          injection h with h
          subst h
          dsimp only at hm
          have e : (x :: r.take (m - 1)).take (runF isDgt (x :: r)) = (x :: r).take (runF isDgt (x :: r)) := by
            rw [← take_pos h0, List.take_take, Nat.min_eq_left hm]
          rw [hdg, Nat.min_eq_right hm, e, if_neg h1]
      · rename_i hd
        rw [if_neg hd]
        split at h
        · cases h
        · rename_i h1
          injection h with h
          subst h
          dsimp only at hm
          have e := sign_take hm h0
          rw [take_pos h0] at e
          rw [e, if_neg h1]
theorem tok_app {l m : Bytes} {b : UInt8} (h : l ≠ []) (hb : isSep b = true) : tokF (l ++ b :: m) = tokF l := by
  cases l with
  | nil => exact absurd rfl h
  | cons x r =>
    obtain ⟨h1, h2⟩ := sep_in hb
    have e1 := run_app isIn h1 (x :: r) m
    have e2 := run_app isDgt h2 (x :: r) m
    have e3 := sign_app (x := x) (l := r) (m := m) hb
    rw [List.cons_append] at e1 e2 e3 ⊢
    unfold tokF
    dsimp only
    have e4 : (x :: (r ++ b :: m)).take (runF isDgt (x :: r)) = (x :: r).take (runF isDgt (x :: r)) := by
      rw [← List.cons_append, List.take_append_of_le_length (run_le _ _)]
    rw [e1, e2, e3, e4]
theorem tok_head {l : Bytes} {t : Tk} (h : tokF l = .inr t) : ∃ x r, l = x :: r ∧ isBl x = false ∧ (x == 35) = false := by
  cases l with
  | nil => cases h
  | cons x r =>
    refine ⟨x, r, rfl, ?_⟩
    by_cases h1 : isBl x = true
    · exfalso
      simp [isBl] at h1
      have : isLet x = false ∧ isDgt x = false ∧ isOne x = false ∧ ∀ l : Bytes, twos.contains ((x :: l).take 2) = false := by
        rcases h1 with ((rfl | rfl) | rfl) | rfl <;> exact ⟨by decide, by decide, by decide, fun l => by cases l <;> simp [twos]⟩
      unfold tokF signF at h
      simp only [this.1, this.2.1, this.2.2.1, this.2.2.2] at h
      simp at h
    · by_cases h2 : (x == 35) = true
      · exfalso
        simp at h2
        subst h2
        have : isLet 35 = false ∧ isDgt 35 = false ∧ isOne 35 = false ∧ ∀ l : Bytes, twos.contains (((35 : UInt8) :: l).take 2) = false := ⟨by decide, by decide, by decide, fun l => by cases l <;> simp [twos]⟩
        unfold tokF signF at h
        simp only [this.1, this.2.1, this.2.2.1, this.2.2.2] at h
        simp at h
      · exact ⟨by simpa using h1, by simpa using h2⟩

/-! ### The scan -/
structure Tok where
  kind : Nat
  at_ : Nat
  end_ : Nat
  num : Nat
deriving DecidableEq
def tokOf (i : Nat) (t : Tk) : Tok := ⟨t.kind, i, i + t.len, t.num⟩

/-- the tokens of l from place i on, where k tokens stand before it; or place and number of the first error -/
def scanN : Nat → Nat → Nat → Bytes → (Nat × Nat) ⊕ List Tok
  | 0, _, _, _ => .inr []
  | n + 1, k, i, l =>
    if gapF false l < l.length then
      if k = 4096 then .inl (i + gapF false l, 3)
      else match tokF (l.drop (gapF false l)) with
        | .inl e => .inl (i + gapF false l, e)
        | .inr t => match scanN n (k + 1) (i + gapF false l + t.len) (l.drop (gapF false l + t.len)) with
          | .inl e => .inl e
          | .inr ts => .inr (tokOf (i + gapF false l) t :: ts)
    else .inr []
def scanG (k i : Nat) (l : Bytes) : (Nat × Nat) ⊕ List Tok := scanN (l.length + 1) k i l
def scanB (l : Bytes) : (Nat × Nat) ⊕ List Tok := if 16384 < l.length then .inl (0, 3) else scanG 0 0 l

theorem scanN_enough : ∀ (n m k i : Nat) (l : Bytes), l.length < n → l.length < m → scanN n k i l = scanN m k i l
  | 0, _, _, _, _, h, _ => absurd h (Nat.not_lt_zero _)
  | _, 0, _, _, _, _, h => absurd h (Nat.not_lt_zero _)
  | n + 1, m + 1, k, i, l, hn, hm => by
    unfold scanN
    split
    · rename_i hg
      split
      · rfl
      · cases ht : tokF (l.drop (gapF false l)) with
        | inl e => rfl
        | inr t =>
          have h1 := tok_len ht
          simp at h1
          dsimp only
          have e := scanN_enough n m (k + 1) (i + gapF false l + t.len) (l.drop (gapF false l + t.len)) (by simp; omega) (by simp; omega)
          rw [e]
    · rfl
/-- behind the tokens ts, from place i on with the rest l, the place behind the gap is j and the rest there is r -/
inductive Run : Nat → Bytes → List Tok → Nat → Bytes → Prop
  | nil (i : Nat) (l : Bytes) : Run i l [] (i + gapF false l) (l.drop (gapF false l))
  | cons {i : Nat} {l : Bytes} {t : Tk} {ts : List Tok} {j : Nat} {r : Bytes} (h : tokF (l.drop (gapF false l)) = .inr t)
      (hr : Run (i + gapF false l + t.len) (l.drop (gapF false l + t.len)) ts j r) : Run i l (tokOf (i + gapF false l) t :: ts) j r

theorem Run.sizes {i : Nat} {l : Bytes} {ts : List Tok} {j : Nat} {r : Bytes} (h : Run i l ts j r) : j + r.length = i + l.length ∧ ts.length + r.length ≤ l.length ∧ r = l.drop (j - i) ∧ i ≤ j ∧ gapF false r = 0 := by
  induction h with
  | nil i l =>
    have := gap_le false l
    refine ⟨by simp; omega, by simp, by rw [Nat.add_sub_cancel_left], by omega, ?_⟩
    cases hd : l.drop (gapF false l) with
    | nil => rfl
    | cons x r =>
      obtain ⟨h1, h2⟩ := gap_stop _ _ _ _ hd
      exact gap_none h1 h2
  | @cons i l t ts j r h hr ih =>
    have := tok_len h
    simp at this ih
    obtain ⟨ih1, ih2, ih3, ih4, ih5⟩ := ih
    refine ⟨by omega, by simp; omega, ?_, by omega, ih5⟩
    rw [ih3]
    congr 1
    omega
theorem scanG_step {k i : Nat} {l : Bytes} : scanG k i l = if gapF false l < l.length then
      if k = 4096 then .inl (i + gapF false l, 3)
      else match tokF (l.drop (gapF false l)) with
        | .inl e => .inl (i + gapF false l, e)
        | .inr t => match scanG (k + 1) (i + gapF false l + t.len) (l.drop (gapF false l + t.len)) with
          | .inl e => .inl e
          | .inr ts => .inr (tokOf (i + gapF false l) t :: ts)
    else .inr [] := by
  unfold scanG
  rw [scanN]
  split
  · rename_i hg
    split
    · rfl
    · cases ht : tokF (l.drop (gapF false l)) with
      | inl e => rfl
      | inr t =>
        have h1 := tok_len ht
        simp at h1
        dsimp only
        have e := scanN_enough l.length ((l.drop (gapF false l + t.len)).length + 1) (k + 1) (i + gapF false l + t.len) (l.drop (gapF false l + t.len)) (by simp; omega) (by omega)
        rw [e]
  · rfl
/-- what is found behind the tokens ts goes on from there -/
def andThen (ts : List Tok) : (Nat × Nat) ⊕ List Tok → (Nat × Nat) ⊕ List Tok
  | .inl e => .inl e
  | .inr us => .inr (ts ++ us)
theorem andThen_nil (x : (Nat × Nat) ⊕ List Tok) : andThen [] x = x := by cases x <;> rfl
theorem andThen_app (a b : List Tok) (x : (Nat × Nat) ⊕ List Tok) : andThen (a ++ b) x = andThen a (andThen b x) := by cases x <;> simp [andThen]
/-- the scan of a rest at whose head there is no gap -/
def scanR (k j : Nat) (r : Bytes) : (Nat × Nat) ⊕ List Tok :=
  if r = [] then .inr []
  else if k = 4096 then .inl (j, 3)
  else match tokF r with
    | .inl e => .inl (j, e)
    | .inr t => match scanG (k + 1) (j + t.len) (r.drop t.len) with
      | .inl e => .inl e
      | .inr ts => .inr (tokOf j t :: ts)
theorem scanG_R (k i : Nat) (l : Bytes) : scanG k i l = scanR k (i + gapF false l) (l.drop (gapF false l)) := by
  have hle := gap_le false l
  rw [scanG_step]
  unfold scanR
  by_cases hg : gapF false l < l.length
  · have hne : l.drop (gapF false l) ≠ [] := by
      intro e
      have := congrArg List.length e
      simp at this
      omega
    rw [if_pos hg, if_neg hne]
    simp only [List.drop_drop]
  · have he : l.drop (gapF false l) = [] := List.drop_eq_nil_of_le (by omega)
    rw [if_neg hg, if_pos he]
theorem scanR_tok {k j : Nat} {r : Bytes} {t : Tk} (h : tokF r = .inr t) (hk : k ≠ 4096) : scanR k j r = andThen [tokOf j t] (scanG (k + 1) (j + t.len) (r.drop t.len)) := by
  have hne : r ≠ [] := by rintro rfl; cases h
  unfold scanR
  rw [if_neg hne, if_neg hk, h]
  dsimp only
  cases scanG (k + 1) (j + t.len) (r.drop t.len) <;> rfl
theorem Run.scan {i : Nat} {l : Bytes} {ts : List Tok} {j : Nat} {r : Bytes} (h : Run i l ts j r) : ∀ {k : Nat}, k + ts.length ≤ 4096 → scanG k i l = andThen ts (scanR (k + ts.length) j r) := by
  induction h with
  | nil i l =>
    intro k _
    rw [andThen_nil, scanG_R]
    rfl
  | @cons i l t ts j r h hr ih =>
    intro k hk
    simp at hk
    rw [scanG_R, scanR_tok h (by omega), List.drop_drop, ih (by omega), ← andThen_app]
    simp
    congr 2
    omega
theorem scan_ok : ∀ (n : Nat) {k i : Nat} {l : Bytes} {ts : List Tok}, l.length ≤ n → k ≤ 4096 → scanG k i l = .inr ts → Run i l ts (i + l.length) [] ∧ k + ts.length ≤ 4096 := by
  intro n
  induction n with
  | zero =>
    intro k i l ts hn hk h
    obtain rfl : l = [] := List.length_eq_zero_iff.1 (by omega)
    rw [scanG_step] at h
    simp [gapF] at h
    subst h
    exact ⟨Run.nil i [], by simpa using hk⟩
  | succ n ih =>
    intro k i l ts hn hk h
    have hle := gap_le false l
    rw [scanG_step] at h
    split at h
    · rename_i hg
      split at h
      · cases h
      · rename_i hk2
        split at h
        · cases h
        · rename_i t ht
          have h1 := tok_len ht
          simp at h1
          split at h
          · cases h
          · rename_i us hus
            injection h with h
            subst h
            obtain ⟨h2, h3⟩ := ih (by simp; omega) (by omega) hus
            simp at h2
            rw [show i + gapF false l + t.len + (l.length - (gapF false l + t.len)) = i + l.length by omega] at h2
            exact ⟨.cons ht h2, by simp; omega⟩
    · injection h with h
      subst h
      have e : l.drop (gapF false l) = [] := List.drop_eq_nil_of_le (by omega)
      have := Run.nil i l
      rw [e, show gapF false l = l.length by omega] at this
      exact ⟨this, by simpa using hk⟩
theorem scan_err : ∀ (n : Nat) {k i : Nat} {l : Bytes} {p e : Nat}, l.length ≤ n → k ≤ 4096 → scanG k i l = .inl (p, e) → ∃ ts r, Run i l ts p r ∧ r ≠ [] ∧ ((k + ts.length = 4096 ∧ e = 3) ∨ (k + ts.length < 4096 ∧ tokF r = .inl e)) := by
  intro n
  induction n with
  | zero =>
    intro k i l p e hn hk h
    obtain rfl : l = [] := List.length_eq_zero_iff.1 (by omega)
    rw [scanG_step] at h
    simp [gapF] at h
  | succ n ih =>
    intro k i l p e hn hk h
    have hle := gap_le false l
    rw [scanG_step] at h
    split at h
    · rename_i hg
      have hne : l.drop (gapF false l) ≠ [] := by
        intro e
        have := congrArg List.length e
        simp at this
        omega
      split at h
      · rename_i hk2
        injection h with h
        injection h with h1 h2
        subst h1 h2
        exact ⟨[], _, .nil i l, hne, .inl ⟨by simpa using hk2, rfl⟩⟩
      · rename_i hk2
        split at h
        · rename_i e2 ht
          injection h with h
          injection h with h1 h2
          subst h1 h2
          exact ⟨[], _, .nil i l, hne, .inr ⟨by simp; omega, ht⟩⟩
        · rename_i t ht
          have h1 := tok_len ht
          simp at h1
          split at h
          · rename_i e2 hus
            injection h with h
            subst h
            obtain ⟨ts, r, h2, h3, h4⟩ := ih (by simp; omega) (by omega) hus
            refine ⟨_, r, .cons ht h2, h3, ?_⟩
            rcases h4 with ⟨h4, h5⟩ | ⟨h4, h5⟩
            · exact .inl ⟨by simp; omega, h5⟩
            · exact .inr ⟨by simp; omega, h5⟩
          · cases h
    · cases h
end Go.Proofs.YtdbahiepihkagaaGreatDoor
namespace Go.Proofs.YtdbahiepihkagaaGreatDoor
open Go.RowKit

theorem letter_any (b : UInt8) (w : World) : Calls Tryz.prog 123 #[.int .u8 (b.toNat : Int)] w fun e w' => e = .returned (.bool (isLet b)) ∧ w' = w := by
  have hb := b.toNat_lt
  unfold isLet
  generalize b.toNat = n at *
  by_cases h1 : 97 ≤ n
  all_goals by_cases h2 : n ≤ 122
  all_goals by_cases h3 : 65 ≤ n
  all_goals by_cases h4 : n ≤ 90
  all_goals first
    | omega
    | (go_enter Tryz.func123, Tryz.ntmps123
       go_wp2
       go_ret
       exact ⟨ret_bool (by rw [Bool.eq_iff_iff] <;> simp <;> omega), rfl⟩)
theorem letterR_any (b : UInt8) (w : World) : Calls Tryz.prog 112 #[.int .u8 (b.toNat : Int)] w fun e w' => e = .returned (.bool (isLet b)) ∧ w' = w := by
  have hb := b.toNat_lt
  unfold isLet
  generalize b.toNat = n at *
  by_cases h1 : 97 ≤ n
  all_goals by_cases h2 : n ≤ 122
  all_goals by_cases h3 : 65 ≤ n
  all_goals by_cases h4 : n ≤ 90
  all_goals first
    | omega
    | (go_enter Tryz.func112, Tryz.ntmps112
       go_wp2
       go_ret
       exact ⟨ret_bool (by rw [Bool.eq_iff_iff] <;> simp <;> omega), rfl⟩)
theorem digit_any (b : UInt8) (w : World) : Calls Tryz.prog 152 #[.int .u8 (b.toNat : Int)] w fun e w' => e = .returned (.bool (isDgt b)) ∧ w' = w := by
  have hb := b.toNat_lt
  unfold isDgt
  generalize b.toNat = n at *
  by_cases h1 : 48 ≤ n
  all_goals by_cases h2 : n ≤ 57
  all_goals first
    | omega
    | (go_enter Tryz.func152, Tryz.ntmps152
       go_wp2
       go_ret
       exact ⟨ret_bool (by rw [Bool.eq_iff_iff] <;> simp <;> omega), rfl⟩)
theorem digitR_any (b : UInt8) (w : World) : Calls Tryz.prog 114 #[.int .u8 (b.toNat : Int)] w fun e w' => e = .returned (.bool (isDgt b)) ∧ w' = w := by
  have hb := b.toNat_lt
  unfold isDgt
  generalize b.toNat = n at *
  by_cases h1 : 48 ≤ n
  all_goals by_cases h2 : n ≤ 57
  all_goals first
    | omega
    | (go_enter Tryz.func114, Tryz.ntmps114
       go_wp2
       go_ret
       exact ⟨ret_bool (by rw [Bool.eq_iff_iff] <;> simp <;> omega), rfl⟩)
theorem byte_eq (b : UInt8) (k : Nat) (hk : k < 256) : (((b.toNat : Nat) : Int) == (k : Int)) = (b == UInt8.ofNat k) := by
  rw [Bool.eq_iff_iff, beq_iff_eq, beq_iff_eq]
  constructor
  · intro h
    apply UInt8.toNat_inj.1
    rw [UInt8.toNat_ofNat']
    omega
  · rintro rfl
    rw [UInt8.toNat_ofNat']
    omega
theorem inWord_any (b : UInt8) (w : World) : Calls Tryz.prog 125 #[.int .u8 (b.toNat : Int)] w fun e w' => e = .returned (.bool (isIn b)) ∧ w' = w := by
  unfold isIn
  have hl := fun w => letter_any b w
  have hd := fun w => digit_any b w
  have h95 := byte_eq b 95 (by decide)
  cases h1 : isLet b <;> rw [h1] at hl
  · cases h2 : isDgt b <;> rw [h2] at hd
    · cases h3 : b == 95 <;> (rw [show UInt8.ofNat 95 = (95 : UInt8) from rfl, h3] at h95; clear h1 h2 h3)
      all_goals
        have h95 : ((b.toNat : Int) == 95) = _ := h95
        go_enter Tryz.func125, Tryz.ntmps125
        go_wp2_with (first | (go_at_call 123; refine (hl _).mono ?_; rintro e w1 ⟨rfl, rfl⟩) | (go_at_call 152; refine (hd _).mono ?_; rintro e w1 ⟨rfl, rfl⟩))
        go_ret
        exact ⟨rfl, rfl⟩
    · clear h1 h2 h95
      go_enter Tryz.func125, Tryz.ntmps125
      go_wp2_with (first | (go_at_call 123; refine (hl _).mono ?_; rintro e w1 ⟨rfl, rfl⟩) | (go_at_call 152; refine (hd _).mono ?_; rintro e w1 ⟨rfl, rfl⟩))
      go_ret
      exact ⟨rfl, rfl⟩
  · clear h1 h95 hd
    go_enter Tryz.func125, Tryz.ntmps125
    go_wp2_with (go_at_call 123; refine (hl _).mono ?_; rintro e w1 ⟨rfl, rfl⟩)
    go_ret
    exact ⟨rfl, rfl⟩
theorem inner_any (b : UInt8) (w : World) : Calls Tryz.prog 113 #[.int .u8 (b.toNat : Int)] w fun e w' => e = .returned (.bool (isIn b)) ∧ w' = w := by
  unfold isIn
  have hl := fun w => letterR_any b w
  have hd := fun w => digitR_any b w
  have h95 := byte_eq b 95 (by decide)
  cases h1 : isLet b <;> rw [h1] at hl
  · cases h2 : isDgt b <;> rw [h2] at hd
    · cases h3 : b == 95 <;> (rw [show UInt8.ofNat 95 = (95 : UInt8) from rfl, h3] at h95; clear h1 h2 h3)
      all_goals
        have h95 : ((b.toNat : Int) == 95) = _ := h95
        go_enter Tryz.func113, Tryz.ntmps113
        go_wp2_with (first | (go_at_call 112; refine (hl _).mono ?_; rintro e w1 ⟨rfl, rfl⟩) | (go_at_call 114; refine (hd _).mono ?_; rintro e w1 ⟨rfl, rfl⟩))
        go_ret
        exact ⟨rfl, rfl⟩
    · clear h1 h2 h95
      go_enter Tryz.func113, Tryz.ntmps113
      go_wp2_with (first | (go_at_call 112; refine (hl _).mono ?_; rintro e w1 ⟨rfl, rfl⟩) | (go_at_call 114; refine (hd _).mono ?_; rintro e w1 ⟨rfl, rfl⟩))
      go_ret
      exact ⟨rfl, rfl⟩
  · clear h1 h95 hd
    go_enter Tryz.func113, Tryz.ntmps113
    go_wp2_with (go_at_call 112; refine (hl _).mono ?_; rintro e w1 ⟨rfl, rfl⟩)
    go_ret
    exact ⟨rfl, rfl⟩
theorem blank_any (b : UInt8) (w : World) : Calls Tryz.prog 151 #[.int .u8 (b.toNat : Int)] w fun e w' => e = .returned (.bool (isBl b)) ∧ w' = w := by
  unfold isBl
  have h32 := byte_eq b 32 (by decide)
  have h9 := byte_eq b 9 (by decide)
  have h10 := byte_eq b 10 (by decide)
  have h13 := byte_eq b 13 (by decide)
  rw [show UInt8.ofNat 32 = (32 : UInt8) from rfl] at h32
  rw [show UInt8.ofNat 9 = (9 : UInt8) from rfl] at h9
  rw [show UInt8.ofNat 10 = (10 : UInt8) from rfl] at h10
  rw [show UInt8.ofNat 13 = (13 : UInt8) from rfl] at h13
  generalize (b == 32) = p at *
  generalize (b == 9) = q at *
  generalize (b == 10) = r at *
  generalize (b == 13) = s at *
  have h32 : ((b.toNat : Int) == 32) = p := h32
  have h9 : ((b.toNat : Int) == 9) = q := h9
  have h10 : ((b.toNat : Int) == 10) = r := h10
  have h13 : ((b.toNat : Int) == 13) = s := h13
  cases p
  · cases q
    · cases r
      · cases s
        all_goals
          go_enter Tryz.func151, Tryz.ntmps151
          go_wp2
          go_ret
          exact ⟨rfl, rfl⟩
      · go_enter Tryz.func151, Tryz.ntmps151
        go_wp2
        go_ret
        exact ⟨rfl, rfl⟩
    · go_enter Tryz.func151, Tryz.ntmps151
      go_wp2
      go_ret
      exact ⟨rfl, rfl⟩
  · go_enter Tryz.func151, Tryz.ntmps151
    go_wp2
    go_ret
    exact ⟨rfl, rfl⟩
end Go.Proofs.YtdbahiepihkagaaGreatDoor
