/- What level, operation and sign of package expr answer. -/
import Derived.Test.YtokmehjofboflaaGreatDoorExprPM
import Derived.Test.YtokmehjofboflaaGreatDoorExprOper
import Derived.Recover
import Derived.Test.YtokmehjofboflaaGreatDoorExprOut
namespace Go.Proofs.YtokmehjofboflaaGreatDoor
set_option maxRecDepth 100000
open Go.RowKit

/-- the world ahead of the reader's struct, the one at the first call of choice, the rows of names and tokens, the text -/
structure Sup where
  W0 : World
  W : World
  na : Option Addr
  nc : Nat
  ta : Option Addr
  tc : Nat
  tx : Bytes
  ns : List Bytes
  ts : List Tok
def Sup.env (U : Sup) : Env := envF U.tx U.ts U.ns
/-- the program's table of words -/
structure Wd (w : World) : Prop where
  lt : 0 < w.heap.size
  at_ : ∀ k : Nat, k < 43 → w.cell? ⟨0, k, none⟩ = some (.string (mkS (wordF (k : Int))))
theorem Wd.below {w w' : World} {B : Nat} (h : Wd w) (hb : Below B w w') (hB : w.heap.size ≤ B) : Wd w' :=
  ⟨Nat.lt_of_lt_of_le h.lt hb.size, fun k hk => (hb.cell (p := ⟨_, k, none⟩) (Nat.lt_of_lt_of_le h.lt hB)).trans (h.at_ k hk)⟩
structure Sup.Ok (U : Sup) : Prop where
  names : NamesAt U.W0 U.na U.ns
  toks : TokAt U.W0 U.ta U.ts
  words : Wd U.W0
  cap : U.ns.length ≤ U.nc
  lt : U.W0.heap.size < U.W.heap.size
  ends : ∀ k, k < U.ts.length → (tkA U.ts k).at_ ≤ (tkA U.ts k).end_ ∧ (tkA U.ts k).end_ ≤ U.tx.length
  good : goodF U.ns = true
  few : U.ts.length ≤ 4096
  short : U.tx.length ≤ 16384
  nums : ∀ k, k < U.ts.length → (tkA U.ts k).num ≤ 1073741824
/-- the reader's struct -/
structure RAt (U : Sup) (w : World) (s : St) (xs : List (Int × Int)) : Prop where
  grow : U.W.grownBy w (some U.W0.heap.size)
  bel : Below U.W0.heap.size U.W0 w
  up : U.W0.heap.size < U.W.heap.size
  good : s.err = 0
  c0 : w.cell? ⟨U.W0.heap.size, 0, none⟩ = some (.string (mkS U.tx))
  c1 : ∃ a c, w.cell? ⟨U.W0.heap.size, 1, none⟩ = some (.slice a (U.ts.length - s.i) c) ∧ U.ts.length - s.i ≤ c ∧ (s.i < U.ts.length → ∃ b, U.ta = some ⟨b, 0, none⟩ ∧ a = some ⟨b, s.i * 4, none⟩)
  c2 : w.cell? ⟨U.W0.heap.size, 2, none⟩ = some (.slice U.na U.ns.length U.nc)
  c3 : ∃ v, w.cell? ⟨U.W0.heap.size, 3, none⟩ = some v ∧ OwnT U.W.heap.size w v xs
  f1 : w.frozen? ⟨U.W0.heap.size, 1, none⟩ = false
  f3 : w.frozen? ⟨U.W0.heap.size, 3, none⟩ = false
  low : s.i ≤ U.ts.length
theorem RAt.lt {U : Sup} {w : World} {s : St} {xs : List (Int × Int)} (h : RAt U w s xs) : U.W0.heap.size < w.heap.size := Nat.lt_of_lt_of_le h.up h.grow.size
theorem grown_below {w w' : World} (hb : Below w.heap.size w w') (r : Option Nat) : w.grownBy w' r := ⟨hb.os, hb.tape, hb.output, hb.size, fun k hk _ => hb.block k hk⟩
theorem RAt.far {U : Sup} {w w' : World} {s : St} {xs : List (Int × Int)} (h : RAt U w s xs) (hb : Below w.heap.size w w') : RAt U w' s xs := by
  have hl := h.lt
  obtain ⟨a, c, e1, e2, e3⟩ := h.c1
  obtain ⟨v, d1, d2⟩ := h.c3
  exact ⟨h.grow.trans (grown_below hb _), h.bel.trans (hb.mono (Nat.le_of_lt hl)), h.up, h.good, (hb.cell (p := ⟨_, 0, none⟩) hl).trans h.c0, ⟨a, c, (hb.cell (p := ⟨_, 1, none⟩) hl).trans e1, e2, e3⟩, (hb.cell (p := ⟨_, 2, none⟩) hl).trans h.c2, ⟨v, (hb.cell (p := ⟨_, 3, none⟩) hl).trans d1, d2.far hb⟩, (hb.frozen (p := ⟨_, 1, none⟩) hl).trans h.f1, (hb.frozen (p := ⟨_, 3, none⟩) hl).trans h.f3, h.low⟩
/-- the token at a place; behind the last one an empty one -/
def Sup.now (U : Sup) (i : Nat) : Tok := if i < U.ts.length then tkA U.ts i else ⟨0, U.tx.length, U.tx.length, 0⟩
theorem Sup.here {U : Sup} {i : Nat} (h : i < U.ts.length) : U.env.ts[i]? = some (ofTok U.tx (tkA U.ts i)) := env_at h
theorem now_ends {U : Sup} (hU : U.Ok) (i : Nat) : (U.now i).at_ ≤ (U.now i).end_ ∧ (U.now i).end_ ≤ U.tx.length := by
  unfold Sup.now
  split
  · rename_i h
    exact hU.ends i h
  · exact ⟨Nat.le_refl _, Nat.le_refl _⟩
theorem now_word {U : Sup} {s : St} (h : s.err = 0) : U.env.word s = (U.tx.drop (U.now s.i).at_).take ((U.now s.i).end_ - (U.now s.i).at_) := by
  unfold Env.word Sup.now
  rw [if_neg (by omega)]
  split
  · rename_i hi
    rw [U.here hi]
    rfl
  · rename_i hi
    have : U.env.ts[s.i]? = none := env_out (by omega)
    rw [this]
    simp
theorem now_kind {U : Sup} {s : St} (h : s.err = 0) : U.env.kind s = (U.now s.i).kind := by
  unfold Env.kind Sup.now
  rw [if_neg (by omega)]
  split
  · rename_i hi
    rw [U.here hi]
    rfl
  · rename_i hi
    have : U.env.ts[s.i]? = none := env_out (by omega)
    rw [this]
    rfl
theorem now_num {U : Sup} {s : St} : U.env.num s = (U.now s.i).num := by
  unfold Env.num Sup.now
  split
  · rename_i hi
    rw [U.here hi]
    rfl
  · rename_i hi
    have : U.env.ts[s.i]? = none := env_out (by omega)
    rw [this]
    rfl
theorem now_here {U : Sup} {s : St} : U.env.here s = (U.now s.i).at_ := by
  unfold Env.here Sup.now
  split
  · rename_i hi
    rw [U.here hi]
    rfl
  · rename_i hi
    have : U.env.ts[s.i]? = none := env_out (by omega)
    rw [this]
    rfl
def tokA6 (t : Tok) : Value := .agg #[.int .i64 (t.kind : Int), .int .i64 (t.at_ : Int), .int .i64 (t.end_ : Int), .int .i64 (t.num : Int)]
theorem RAt.tok {U : Sup} (hU : U.Ok) {w : World} {s : St} {xs : List (Int × Int)} (h : RAt U w s xs) (hi : s.i < U.ts.length) : ∃ b, U.ta = some ⟨b, 0, none⟩ ∧ b < w.heap.size ∧ w.cell? ⟨b, s.i * 4, none⟩ = some (.int .i64 ((tkA U.ts s.i).kind : Int)) ∧ w.cell? ⟨b, s.i * 4 + 1, none⟩ = some (.int .i64 ((tkA U.ts s.i).at_ : Int)) ∧
    w.cell? ⟨b, s.i * 4 + 2, none⟩ = some (.int .i64 ((tkA U.ts s.i).end_ : Int)) ∧ w.cell? ⟨b, s.i * 4 + 3, none⟩ = some (.int .i64 ((tkA U.ts s.i).num : Int)) := by
  obtain ⟨b, hb, hl, hc⟩ := (hU.toks.below h.bel rfl).row (by omega)
  exact ⟨b, hb, hl, hc s.i hi⟩
set_option maxHeartbeats 1000000 in
theorem nextP_any (U : Sup) (hU : U.Ok) (s : St) (xs : List (Int × Int)) (w : World) (h : RAt U w s xs) :
    Calls Tryz.prog 40 #[.pointer (some ⟨U.W0.heap.size, 0, none⟩)] w fun e w' => e = .returned (tokA6 (U.now s.i)) ∧ Below w.heap.size w w' := by
  have hc0 := h.c0
  obtain ⟨a, c, hc1, hcc, hca⟩ := h.c1
  have hlt := h.lt
  have HB := Lib.hid (below_alloc6 w (.cells #[.int .i64 0, .int .i64 0, .int .i64 0, .int .i64 0] 68))
  have hl := h.low
  have hsz := mkS_size U.tx
  by_cases hi : s.i < U.ts.length
  case neg =>
    have hv : U.now s.i = ⟨0, U.tx.length, U.tx.length, 0⟩ := by unfold Sup.now; rw [if_neg hi]
    have hn : U.ts.length - s.i = 0 := by omega
    rw [hn] at hc1
    rw [hv]
    unfold tokA6
    dsimp only
    rw [← hsz]
    have hlen : (mkS U.tx).size ≤ 100000 := by rw [hsz]; have := hU.short; omega
    clear h hU hcc hca hv hn hsz
    generalize mkS U.tx = X at *
    generalize hpb : U.W0.heap.size = pb at *
    have hn1 : pb ≠ w.heap.size := by omega
    go_enter Tryz.func40, Tryz.ntmps40
    go_wp2
    go_region
    go_wp2
    refine bodyPost_ret (v := .agg #[.int .i64 0, .int .i64 (X.size : Int), .int .i64 (X.size : Int), .int .i64 0]) (by simp [results, Tryz.results40, go_sem]) rfl ⟨rfl, (below_alloc6 w _).drew⟩
  obtain ⟨b, hb, hbl, k0, k1, k2, k3⟩ := h.tok hU hi
  obtain ⟨b', hb', ha⟩ := hca hi
  obtain rfl : b' = b := by rw [hb] at hb'; injection hb' with e; injection e with e; exact e.symm
  have hv : U.now s.i = tkA U.ts s.i := by unfold Sup.now; rw [if_pos hi]
  rw [hv]
  unfold tokA6
  subst ha
  obtain ⟨m, hm⟩ : ∃ m, m = U.ts.length - s.i := ⟨_, rfl⟩
  rw [← hm] at hc1
  have hm1 : ¬ ((m : Int) = 0) := by omega
  have hm2 : (0 : Int) < (m : Int) := by omega
  have hm3 : ((m : Int) == 0) = false := by simp; omega
  clear h hU hcc hca hv hb hb' hc0 hm hl hi
  generalize (tkA U.ts s.i).kind = z0 at *
  generalize (tkA U.ts s.i).at_ = z1 at *
  generalize (tkA U.ts s.i).end_ = z2 at *
  generalize (tkA U.ts s.i).num = z3 at *
  generalize s.i * 4 = o at *
  generalize hpb : U.W0.heap.size = pb at *
  have hn1 : pb ≠ w.heap.size := by omega
  have hn2 : b' ≠ w.heap.size := by omega
  go_enter Tryz.func40, Tryz.ntmps40
  go_wp2
  refine bodyPost_ret (v := .agg #[.int .i64 (z0 : Int), .int .i64 (z1 : Int), .int .i64 (z2 : Int), .int .i64 (z3 : Int)]) (by simp [results, Tryz.results40, go_sem]) rfl ⟨rfl, below_alloc6 w _⟩
set_option maxHeartbeats 1000000 in
theorem wordQ_any (U : Sup) (hU : U.Ok) (s : St) (xs : List (Int × Int)) (w : World) (h : RAt U w s xs) :
    Calls Tryz.prog 84 #[.pointer (some ⟨U.W0.heap.size, 0, none⟩)] w fun e w' => e = .returned (.string (mkS (U.env.word s))) ∧ Below w.heap.size w w' := by
  have HN := Lib.hid (nextP_any U hU s xs w h)
  have HC := Lib.hid (fun W (hb : Below w.heap.size w W) => (h.far hb).c0)
  have hlt := h.lt
  obtain ⟨e1, e2⟩ := now_ends hU s.i
  have hpart := mkS_part U.tx (U.now s.i).at_ (U.now s.i).end_
  rw [← now_word h.good] at hpart
  have hsz := mkS_size U.tx
  unfold tokA6 at HN
  clear h hU
  generalize hpb : U.W0.heap.size = pb at *
  generalize (U.now s.i).kind = z0 at *
  generalize (U.now s.i).at_ = A at *
  generalize (U.now s.i).end_ = E at *
  generalize (U.now s.i).num = z3 at *
  generalize mkS U.tx = X at *
  generalize mkS (U.env.word s) = Y at *
  have q3 : (A : Int) ≤ (E : Int) := by omega
  have q4 : (E : Int) ≤ (X.size : Int) := by omega
  have q5 : (0 : Int) ≤ (A : Int) := by omega
  clear hsz e1 e2 hpb
  go_enter Tryz.func84, Tryz.ntmps84
  go_wp2_with (go_at_call 40; refine HN.out.mono ?_; rintro e w1 ⟨rfl, hb1⟩; have k0 := HC.out _ hb1; have hl1 := hb1.size; have hn1 : pb ≠ w1.heap.size := by omega)
  have b0 : (w1.alloc (.cells #[.int .i64 (z0 : Int), .int .i64 (A : Int), .int .i64 (E : Int), .int .i64 (z3 : Int)] 68)).cell? ⟨pb, 0, none⟩ = some (.string X) := ((below_alloc6 w1 _).cell (p := ⟨pb, 0, none⟩) (by show pb < w1.heap.size; omega)).trans k0
  have b1 : (w1.alloc (.cells #[.int .i64 (z0 : Int), .int .i64 (A : Int), .int .i64 (E : Int), .int .i64 (z3 : Int)] 68)).cell? ⟨w1.heap.size, 1, none⟩ = some (.int .i64 (A : Int)) := World.cell?_alloc_new w1 _ _ 1
  have b2 : (w1.alloc (.cells #[.int .i64 (z0 : Int), .int .i64 (A : Int), .int .i64 (E : Int), .int .i64 (z3 : Int)] 68)).cell? ⟨w1.heap.size, 2, none⟩ = some (.int .i64 (E : Int)) := World.cell?_alloc_new w1 _ _ 2
  go_quiet (fail)
  go_wp2
  go_ret
  exact ⟨by rw [← hpart]; rfl, by first | exact belDraws (hb1.trans ((below_alloc6 w1 _).mono hl1)) _ | exact hb1.trans ((below_alloc6 w1 _).mono hl1)⟩
set_option maxHeartbeats 1000000 in
theorem failQ_any (U : Sup) (hU : U.Ok) (s : St) (xs : List (Int × Int)) (w : World) (h : RAt U w s xs) (e0 : Nat) :
    Calls Tryz.prog 42 #[.pointer (some ⟨U.W0.heap.size, 0, none⟩), .int .i64 (e0 : Int)] w fun e w' => e = .panicked [{ v := .iface 73 (.agg #[.int .i64 (U.env.here s : Int), .int .i64 (e0 : Int)]), recovered := false }] ∧ Below w.heap.size w w' := by
  have HN := Lib.hid (nextP_any U hU s xs w h)
  unfold tokA6 at HN
  rw [now_here]
  have hfd : ∀ (a b c d : Value) (W : World), (Instr.field 68 (.agg #[a, b, c, d]) 1).run Tryz.prog W = .ok b W := fun _ _ _ _ _ => by kernel_rfl
  clear h hU
  generalize hpb : U.W0.heap.size = pb at *
  generalize (U.now s.i).kind = z0 at *
  generalize (U.now s.i).at_ = A at *
  generalize (U.now s.i).end_ = E at *
  generalize (U.now s.i).num = z3 at *
  go_enter Tryz.func42, Tryz.ntmps42
  go_wp2_with (go_at_call 40; refine HN.out.mono ?_; rintro e w1 ⟨rfl, hb1⟩)
  exact ⟨rfl, rfl, hb1⟩
/-! ### The reader's steps -/
theorem own_block_ne {U : Sup} {w : World} {v : Value} {xs : List (Int × Int)} (h : OwnT U.W.heap.size w v xs) {k : Nat} (hk : k < U.W.heap.size) : some k ≠ v.ownBlock := fun e => by
  have := own_low h e.symm
  omega
theorem RAt.put1 {U : Sup} {w : World} {s : St} {xs : List (Int × Int)} (h : RAt U w s xs) (hi : s.i < U.ts.length) (a : Option Addr) (c : Nat) (hc : U.ts.length - (s.i + 1) ≤ c) (ha : s.i + 1 < U.ts.length → ∃ b, U.ta = some ⟨b, 0, none⟩ ∧ a = some ⟨b, (s.i + 1) * 4, none⟩) :
    RAt U (w.setCell ⟨U.W0.heap.size, 1, none⟩ (.slice a (U.ts.length - (s.i + 1)) c)) s.adv xs := by
  obtain ⟨a0, c0, e1, e2, e3⟩ := h.c1
  obtain ⟨v, d1, d2⟩ := h.c3
  refine ⟨h.grow.trans (grown_set6 _ _ _ _), h.bel.setCell (Nat.le_refl _) _, h.up, h.good, (set_other (by simp)).trans h.c0, ⟨a, c, set_same e1, hc, ha⟩, (set_other (by simp)).trans h.c2, ⟨v, (set_other (by simp)).trans d1, ownsRow_setCell_below d2 h.up _⟩, ?_, ?_, hi⟩
  · rw [World.frozen?_setCell]; exact h.f1
  · rw [World.frozen?_setCell]; exact h.f3
theorem RAt.put3 {U : Sup} {w : World} {s : St} {xs : List (Int × Int)} (h : RAt U w s xs) {v v2 : Value} {w2 : World} {ys : List (Int × Int)} (hv : w.cell? ⟨U.W0.heap.size, 3, none⟩ = some v) (ho : OwnT U.W.heap.size w v xs) (hg : w.grownBy w2 v.ownBlock) (h2 : OwnT U.W.heap.size w2 v2 ys) :
    RAt U (w2.setCell ⟨U.W0.heap.size, 3, none⟩ v2) s ys := by
  have hl := h.lt
  have hbk : w2.heap[U.W0.heap.size]? = w.heap[U.W0.heap.size]? := hg.block _ hl (own_block_ne ho h.up)
  have hc : ∀ i, w2.cell? ⟨U.W0.heap.size, i, none⟩ = w.cell? ⟨U.W0.heap.size, i, none⟩ := fun i => World.cell?_of_block hbk
  have hf : ∀ i, w2.frozen? ⟨U.W0.heap.size, i, none⟩ = w.frozen? ⟨U.W0.heap.size, i, none⟩ := fun i => World.frozen?_of_block hbk
  obtain ⟨a0, c0, e1, e2, e3⟩ := h.c1
  have hg2 : U.W.grownBy w2 (some U.W0.heap.size) := ⟨hg.os.trans h.grow.os, hg.tape.trans h.grow.tape, hg.output.trans h.grow.output, Nat.le_trans h.grow.size hg.size, fun k hk hne => (hg.block k (Nat.lt_of_lt_of_le hk h.grow.size) (own_block_ne ho hk)).trans (h.grow.block k hk hne)⟩
  have hb2 : Below U.W0.heap.size U.W0 w2 := h.bel.grown hg (Nat.le_of_lt hl) (fun k e => Nat.le_of_lt (Nat.lt_of_lt_of_le h.up (own_low ho e)))
  refine ⟨hg2.trans (grown_set6 _ _ _ _), hb2.setCell (Nat.le_refl _) _, h.up, h.good, (set_other (by simp)).trans ((hc 0).trans h.c0), ⟨a0, c0, (set_other (by simp)).trans ((hc 1).trans e1), e2, e3⟩, (set_other (by simp)).trans ((hc 2).trans h.c2), ⟨v2, set_same ((hc 3).trans hv), ownsRow_setCell_below h2 h.up _⟩, ?_, ?_, h.low⟩
  · rw [World.frozen?_setCell]; exact (hf 1).trans h.f1
  · rw [World.frozen?_setCell]; exact (hf 3).trans h.f3
theorem RAt.draws {U : Sup} {w : World} {s : St} {xs : List (Int × Int)} (h : RAt U w s xs) (n : Nat) : RAt U (w.drewN n) s xs := h.far (belDraws (Below.refl _ _) n)
theorem word_in6 {U : Sup} {s : St} {x : Bytes} (hx : x ≠ []) (h : U.env.word s = x) : s.i < U.ts.length := by
  have := in_of (V := U.env) (s := s) (by rw [h]; exact hx)
  have := this.2
  rwa [show U.env.ts.length = U.ts.length from env_len _ _ _] at this
set_option maxHeartbeats 1000000 in
theorem acceptQ_no (U : Sup) (hU : U.Ok) (s : St) (xs : List (Int × Int)) (w : World) (h : RAt U w s xs) (x : Bytes) (hx : U.env.word s ≠ x) :
    Calls Tryz.prog 109 #[.pointer (some ⟨U.W0.heap.size, 0, none⟩), .string (mkS x)] w fun e w' => e = .returned (.bool false) ∧ Below w.heap.size w w' := by
  have HW := Lib.hid (wordQ_any U hU s xs w h)
  have hb := mkS_not hx
  clear h hU hx
  generalize hpb : U.W0.heap.size = pb at *
  generalize mkS (U.env.word s) = Y at *
  generalize mkS x = X at *
  go_enter Tryz.func109, Tryz.ntmps109
  go_wp2_with (go_at_call 84; refine HW.out.mono ?_; rintro e w1 ⟨rfl, hb1⟩)
  go_ret
  exact ⟨rfl, hb1⟩
set_option maxHeartbeats 1000000 in
theorem acceptQ_yes (U : Sup) (hU : U.Ok) (s : St) (xs : List (Int × Int)) (w : World) (h : RAt U w s xs) (x : Bytes) (h0 : x ≠ []) (hx : U.env.word s = x) :
    Calls Tryz.prog 109 #[.pointer (some ⟨U.W0.heap.size, 0, none⟩), .string (mkS x)] w fun e w' => e = .returned (.bool true) ∧ RAt U w' s.adv xs := by
  have HW := Lib.hid (wordQ_any U hU s xs w h)
  have hb := mkS_same x
  have hi := word_in6 h0 hx
  obtain ⟨a, c, e1, e2, e3⟩ := h.c1
  have HP := Lib.hid h
  have hf := h.f1
  have hl := h.lt
  have HC : Hid (∀ W, Below w.heap.size w W → W.cell? ⟨U.W0.heap.size, 1, none⟩ = some (.slice a (U.ts.length - s.i) c) ∧ W.frozen? ⟨U.W0.heap.size, 1, none⟩ = false) := Lib.hid (fun W hb => ⟨(hb.cell (p := ⟨_, 1, none⟩) hl).trans e1, (hb.frozen (p := ⟨_, 1, none⟩) hl).trans hf⟩)
  have HS : Hid (∀ W, Below w.heap.size w W → ∀ (a' : Option Addr) (c' : Nat), U.ts.length - (s.i + 1) ≤ c' → (s.i + 1 < U.ts.length → ∃ b, U.ta = some ⟨b, 0, none⟩ ∧ a' = some ⟨b, (s.i + 1) * 4, none⟩) → RAt U (W.setCell ⟨U.W0.heap.size, 1, none⟩ (.slice a' (U.ts.length - s.i - 1) c')) s.adv xs) := Lib.hid (fun W hb a' c' h1 h2 => (h.far hb).put1 hi a' c' h1 h2)
  have HE := Lib.hid e3
  subst hx
  clear h hU hf h0
  obtain ⟨b, hta, ha⟩ := e3 hi
  subst ha
  generalize hpb : U.W0.heap.size = pb at *
  obtain ⟨n, hn⟩ : ∃ n, n = U.ts.length - s.i := ⟨_, rfl⟩
  rw [← hn] at HC HS e1 e2
  have HN := Lib.hid hn
  have HTa := Lib.hid hta
  have HI := Lib.hid hi
  have hn1 : 1 ≤ n := by omega
  have q1 : ¬ ((n : Int) < 1) := by omega
  clear hn hta hi e3
  generalize mkS (U.env.word s) = Y at *
  by_cases hc1 : c = 1
  · subst hc1
    have hn2 : n = 1 := by omega
    subst hn2
    go_enter Tryz.func109, Tryz.ntmps109
    go_wp2_with (go_at_call 84; refine HW.out.mono ?_; rintro e w1 ⟨rfl, hb1⟩; obtain ⟨k1, kf⟩ := HC.out _ hb1)
    go_ret
    exact ⟨rfl, HS.out _ hb1 _ 0 (by have := HN.out; omega) (fun k => by have := HN.out; omega)⟩
  go_enter Tryz.func109, Tryz.ntmps109
  go_wp2_with (go_at_call 84; refine HW.out.mono ?_; rintro e w1 ⟨rfl, hb1⟩; obtain ⟨k1, kf⟩ := HC.out _ hb1)
  go_ret
  exact ⟨rfl, HS.out _ hb1 _ (c - 1) (by have := HN.out; omega) (fun _ => ⟨b, HTa.out, by rw [Nat.succ_mul]⟩)⟩
end Go.Proofs.YtokmehjofboflaaGreatDoor
namespace Go.Proofs.YtokmehjofboflaaGreatDoor
set_option maxRecDepth 100000
open Go.RowKit

set_option linter.unusedSimpArgs false in
theorem levelP_any (op : Int) (w : World) : Calls Tryz.prog 61 #[.int .i64 op] w fun e w' => e = .returned (.int .i64 ((lvF op : Int) - 1)) ∧ w' = w := by
  by_cases h1 : op = 43
  · subst h1
    go_enter Tryz.func61, Tryz.ntmps61
    go_wp2
    go_ret
    exact ⟨rfl, rfl⟩
  by_cases h2 : op = 42
  · subst h2
    go_enter Tryz.func61, Tryz.ntmps61
    go_wp2
    go_ret
    exact ⟨rfl, rfl⟩
  by_cases h3 : op = 41
  · subst h3
    go_enter Tryz.func61, Tryz.ntmps61
    go_wp2
    go_ret
    exact ⟨rfl, rfl⟩
  by_cases h4 : op = 33
  · subst h4
    go_enter Tryz.func61, Tryz.ntmps61
    go_wp2
    go_ret
    exact ⟨rfl, rfl⟩
  by_cases h5 : op = 34
  · subst h5
    go_enter Tryz.func61, Tryz.ntmps61
    go_wp2
    go_ret
    exact ⟨rfl, rfl⟩
  by_cases h6 : op = 18
  · subst h6
    go_enter Tryz.func61, Tryz.ntmps61
    go_wp2
    go_ret
    exact ⟨rfl, rfl⟩
  by_cases h7 : op = 19
  · subst h7
    go_enter Tryz.func61, Tryz.ntmps61
    go_wp2
    go_ret
    exact ⟨rfl, rfl⟩
  have e1 : (op == 43) = false := by simpa using h1
  have e2 : (op == 42) = false := by simpa using h2
  have e3 : (op == 41) = false := by simpa using h3
  have e4 : (op == 33) = false := by simpa using h4
  have e5 : (op == 34) = false := by simpa using h5
  have e6 : (op == 18) = false := by simpa using h6
  have e7 : (op == 19) = false := by simpa using h7
  by_cases h8 : 35 ≤ op
  all_goals by_cases h9 : op ≤ 40
  all_goals by_cases h10 : 30 ≤ op
  all_goals by_cases h11 : op ≤ 32
  all_goals first
    | omega
    | (have h12 : lvF op = lvF op := rfl
       conv at h12 => rhs; unfold lvF
       simp only [h1, h2, h3, h4, h5, h6, h7, h8, h9, h10, h11, and_true, true_and, and_false, false_and, or_false, false_or, if_true, if_false] at h12
       rw [h12]
       go_enter Tryz.func61, Tryz.ntmps61
       go_wp2
       go_ret
       exact ⟨rfl, rfl⟩)
theorem mkS_emp (l : Bytes) : (mkS l).toList.isEmpty = l.isEmpty := by rw [ByteArray.toList_eq, mkS_list]
set_option maxHeartbeats 1000000 in
theorem operationP_any (a n : Nat) (h43 : a + n ≤ 43) (z : Int) (hz : z + 1 = (a : Int) + (n : Int)) (l : Bytes) (w : World) (hW : Wd w) :
    Calls Tryz.prog 115 #[.int .i64 (a : Int), .int .i64 z, .string (mkS l)] w fun e w' => e = .returned (.int .i64 (opF a n l : Nat)) ∧ w' = w := by
  have hem := mkS_emp l
  by_cases h0 : l = []
  · have hv : opF a n l = 0 := by unfold opF; rw [if_pos h0]
    rw [hv]
    have he : (mkS l).toList.isEmpty = true := by rw [hem, h0]; rfl
    clear hem hW
    generalize mkS l = X at *
    go_enter Tryz.func115, Tryz.ntmps115
    go_wp2
    go_ret
    exact ⟨rfl, rfl⟩
  have he : (mkS l).toList.isEmpty = false := by
    rw [hem]
    cases l with
    | nil => exact absurd rfl h0
    | cons x r => rfl
  have HV : Hid (opF a n l = opG l a n) := Lib.hid (by unfold opF; rw [if_neg h0])
  have HHit := Lib.hid (fun (k : Nat) (h : k < n) => @opG_hit l n k a h)
  have HMiss := Lib.hid (@opG_miss l n a)
  have HW := Lib.hid hW
  have HS := Lib.hid (mkS_same l)
  have HN := Lib.hid (fun (x : Bytes) (h : x ≠ l) => mkS_not h)
  obtain ⟨v, hv⟩ : ∃ v, v = opF a n l := ⟨_, rfl⟩
  rw [← hv] at HV ⊢
  clear hem hv hW h0
  go_enter Tryz.func115, Tryz.ntmps115
  go_wp2
  go_loop [7] (fun t => ∃ j : Nat, t = .int .i64 ((a + j : Nat) : Int) ∧ j ≤ n ∧ (∀ i, i < j → wordF ((a + i : Nat) : Int) ≠ l)) (fun t => a + n - (intOf t).toNat)
  case atStart => exact ⟨0, rfl, Nat.zero_le _, (fun i h => by omega)⟩
  case round =>
    obtain ⟨j, rfl, hj, hlow⟩ := hrel
    have HL := Lib.hid hlow
    clear hlow
    obtain ⟨k, hk⟩ : ∃ k, k = a + j := ⟨_, rfl⟩
    rw [← hk]
    by_cases hlt : j < n
    · have hcell := HW.out.at_ k (by omega)
      have q1 : (k : Int) ≤ z := by omega
      have q2 : (0 : Int) ≤ (k : Int) ∧ (k : Int) < 43 := by omega
      obtain ⟨x, hx⟩ : ∃ x, x = wordF (k : Int) := ⟨_, rfl⟩
      rw [← hx] at hcell
      have HX := Lib.hid hx
      have HK := Lib.hid hk
      clear hx hk
      by_cases he2 : x = l
      · have hz : v = k := by
          rw [HV.out, HHit.out j hlt HL.out (by rw [← HK.out, ← HX.out]; exact he2), HK.out]
        subst he2
        have hbeq := HS.out
        go_wp2
        go_ret
        exact ⟨by first | rfl | (rw [hz]; rfl), rfl⟩
      · have hbeq := HN.out x he2
        go_wp2
        go_round
        case rel =>
          refine ⟨j + 1, by have := HK.out; subst this; go_num, hlt, fun i hi => ?_⟩
          rcases Nat.lt_or_ge i j with h | h
          · exact HL.out i h
          · obtain rfl : i = j := by omega
            rw [← HK.out, ← HX.out]
            exact he2
        case measure => simp [intOf]; omega
    · have q1 : ¬ ((k : Int) ≤ z) := by omega
      have hz : v = 0 := by
        rw [HV.out]
        exact HMiss.out (fun i hi => HL.out i (by omega))
      go_wp2
      go_ret
      exact ⟨by first | rfl | (rw [hz]; rfl), rfl⟩
set_option maxHeartbeats 1000000 in
theorem signQ_any (U : Sup) (hU : U.Ok) (s : St) (xs : List (Int × Int)) (w : World) (h : RAt U w s xs) (lv : Nat) (z : Int) (hz : z + 1 = (lv : Int)) :
    Calls Tryz.prog 107 #[.pointer (some ⟨U.W0.heap.size, 0, none⟩), .int .i64 z] w fun e w' => e = .returned (.int .i64 (signP lv (U.env.word s) : Nat)) ∧ Below w.heap.size w w' := by
  have HW := Lib.hid (wordQ_any U hU s xs w h)
  have HO := Lib.hid (fun W (hb : Below w.heap.size w W) => operationP_any 30 13 (by omega) 42 (by omega) (U.env.word s) W ((hU.words.below h.bel (Nat.le_refl _)).below hb (Nat.le_refl _)))
  have HV : Hid (signP lv (U.env.word s) = if lvF ((opF 30 13 (U.env.word s) : Nat) : Int) = lv then opF 30 13 (U.env.word s) else 0) := Lib.hid rfl
  have HL := Lib.hid (fun (op : Int) W => levelP_any op W)
  have hop := opF_le 30 13 (U.env.word s)
  clear h hU
  generalize hpb : U.W0.heap.size = pb at *
  generalize mkS (U.env.word s) = Y at *
  generalize signP lv (U.env.word s) = v at *
  generalize opF 30 13 (U.env.word s) = op at *
  by_cases hq : lvF (op : Int) = lv
  · have hv : v = op := by rw [HV.out, if_pos hq]
    subst hv
    have d : ((lvF (v : Int) : Int) - 1 != z) = false := by simp; omega
    go_enter Tryz.func107, Tryz.ntmps107
    go_wp2_with (first | (go_at_call 84; refine HW.out.mono ?_; rintro e w1 ⟨rfl, hb1⟩) | (go_at_call 115; refine (HO.out _ hb1).mono ?_; rintro e w2 ⟨rfl, rfl⟩) | (go_at_call 61; refine (HL.out _ _).mono ?_; rintro e w3 ⟨rfl, rfl⟩))
    go_ret
    exact ⟨rfl, hb1⟩
  · have hv : v = 0 := by rw [HV.out, if_neg hq]
    subst hv
    have d : ((lvF (op : Int) : Int) - 1 != z) = true := by simp; omega
    go_enter Tryz.func107, Tryz.ntmps107
    go_wp2_with (first | (go_at_call 84; refine HW.out.mono ?_; rintro e w1 ⟨rfl, hb1⟩) | (go_at_call 115; refine (HO.out _ hb1).mono ?_; rintro e w2 ⟨rfl, rfl⟩) | (go_at_call 61; refine (HL.out _ _).mono ?_; rintro e w3 ⟨rfl, rfl⟩))
    go_ret
    exact ⟨rfl, hb1⟩
end Go.Proofs.YtokmehjofboflaaGreatDoor
