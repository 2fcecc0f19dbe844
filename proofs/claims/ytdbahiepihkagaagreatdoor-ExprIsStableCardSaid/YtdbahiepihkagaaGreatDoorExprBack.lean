/- The text of a tree spells the tree: Format's, and the one with all operands in brackets; their sizes; brackets around the whole. No program in it. -/
import Derived.Test.YtdbahiepihkagaaGreatDoorCur
import Derived.Test.YtdbahiepihkagaaGreatDoorExprTree
namespace Go.Proofs.YtdbahiepihkagaaGreatDoor
set_option maxRecDepth 100000
open Go.RowKit

/-- the world ahead of the reader's struct, the one at the first call of choice, the rows of names and tokens, the text -/
structure Sup where
  W0 : World
  W : World
  na : Option Addr
  nc : Nat
  ta : Option Addr
  tc : Nat
  tx : Bytes
  ns : List Bytes
  ts : List Tok
def Sup.env (U : Sup) : Env := envF U.tx U.ts U.ns
/-- the program's table of words -/
structure Wd (w : World) : Prop where
  lt : 0 < w.heap.size
  at_ : ∀ k : Nat, k < 43 → w.cell? ⟨0, k, none⟩ = some (.string (mkS (wordF (k : Int))))
theorem Wd.below {w w' : World} {B : Nat} (h : Wd w) (hb : Below B w w') (hB : w.heap.size ≤ B) : Wd w' :=
  ⟨Nat.lt_of_lt_of_le h.lt hb.size, fun k hk => (hb.cell (p := ⟨_, k, none⟩) (Nat.lt_of_lt_of_le h.lt hB)).trans (h.at_ k hk)⟩
structure Sup.Ok (U : Sup) : Prop where
  names : NamesAt U.W0 U.na U.ns
  toks : TokAt U.W U.ta U.ts
  off : ∀ b, U.ta = some ⟨b, 0, none⟩ → b ≠ U.W0.heap.size
  words : Wd U.W0
  cap : U.ns.length ≤ U.nc
  lt : U.W0.heap.size < U.W.heap.size
  ends : ∀ k, k < U.ts.length → (tkA U.ts k).at_ ≤ (tkA U.ts k).end_ ∧ (tkA U.ts k).end_ ≤ U.tx.length
  good : goodF U.ns = true
  few : U.ts.length ≤ 4096
  short : U.tx.length ≤ 16384
  nums : ∀ k, k < U.ts.length → (tkA U.ts k).num ≤ 1073741824
/-- the reader's struct -/
structure RAt (U : Sup) (w : World) (s : St) (xs : List (Int × Int)) : Prop where
  grow : U.W.grownBy w (some U.W0.heap.size)
  bel : Below U.W0.heap.size U.W0 w
  up : U.W0.heap.size < U.W.heap.size
  good : s.err = 0
  c0 : w.cell? ⟨U.W0.heap.size, 0, none⟩ = some (.string (mkS U.tx))
  c1 : ∃ a c, w.cell? ⟨U.W0.heap.size, 1, none⟩ = some (.slice a (U.ts.length - s.i) c) ∧ U.ts.length - s.i ≤ c ∧ (s.i < U.ts.length → ∃ b, U.ta = some ⟨b, 0, none⟩ ∧ a = some ⟨b, s.i * 4, none⟩)
  c2 : w.cell? ⟨U.W0.heap.size, 2, none⟩ = some (.slice U.na U.ns.length U.nc)
  c3 : ∃ v, w.cell? ⟨U.W0.heap.size, 3, none⟩ = some v ∧ OwnT U.W.heap.size w v xs
  f1 : w.frozen? ⟨U.W0.heap.size, 1, none⟩ = false
  f3 : w.frozen? ⟨U.W0.heap.size, 3, none⟩ = false
  low : s.i ≤ U.ts.length
theorem RAt.lt {U : Sup} {w : World} {s : St} {xs : List (Int × Int)} (h : RAt U w s xs) : U.W0.heap.size < w.heap.size := Nat.lt_of_lt_of_le h.up h.grow.size
theorem grown_below {w w' : World} (hb : Below w.heap.size w w') (r : Option Nat) : w.grownBy w' r := ⟨hb.os, hb.tape, hb.output, hb.size, fun k hk _ => hb.block k hk⟩
theorem RAt.far {U : Sup} {w w' : World} {s : St} {xs : List (Int × Int)} (h : RAt U w s xs) (hb : Below w.heap.size w w') : RAt U w' s xs := by
  have hl := h.lt
  obtain ⟨a, c, e1, e2, e3⟩ := h.c1
  obtain ⟨v, d1, d2⟩ := h.c3
  exact ⟨h.grow.trans (grown_below hb _), h.bel.trans (hb.mono (Nat.le_of_lt hl)), h.up, h.good, (hb.cell (p := ⟨_, 0, none⟩) hl).trans h.c0, ⟨a, c, (hb.cell (p := ⟨_, 1, none⟩) hl).trans e1, e2, e3⟩, (hb.cell (p := ⟨_, 2, none⟩) hl).trans h.c2, ⟨v, (hb.cell (p := ⟨_, 3, none⟩) hl).trans d1, d2.far hb⟩, (hb.frozen (p := ⟨_, 1, none⟩) hl).trans h.f1, (hb.frozen (p := ⟨_, 3, none⟩) hl).trans h.f3, h.low⟩
theorem Sup.Ok.scd {U : Sup} (h : U.Ok) : Scd U.tx U.ts := ⟨h.ends, h.few, h.short, h.nums⟩
/-- the token at a place; behind the last one an empty one -/
def Sup.now (U : Sup) (i : Nat) : Tok := nowT U.tx U.ts i
theorem Sup.here {U : Sup} {i : Nat} (h : i < U.ts.length) : U.env.ts[i]? = some (ofTok U.tx (tkA U.ts i)) := env_at h
theorem now_ends {U : Sup} (hU : U.Ok) (i : Nat) : (U.now i).at_ ≤ (U.now i).end_ ∧ (U.now i).end_ ≤ U.tx.length := by
  unfold Sup.now nowT
  split
  · rename_i h
    exact hU.ends i h
  · exact ⟨Nat.le_refl _, Nat.le_refl _⟩
theorem now_word {U : Sup} {s : St} (h : s.err = 0) : U.env.word s = (U.tx.drop (U.now s.i).at_).take ((U.now s.i).end_ - (U.now s.i).at_) := by
  unfold Env.word Sup.now nowT
  rw [if_neg (by omega)]
  split
  · rename_i hi
    rw [U.here hi]
    rfl
  · rename_i hi
    have : U.env.ts[s.i]? = none := env_out (by omega)
    rw [this]
    simp
theorem now_kind {U : Sup} {s : St} (h : s.err = 0) : U.env.kind s = (U.now s.i).kind := by
  unfold Env.kind Sup.now nowT
  rw [if_neg (by omega)]
  split
  · rename_i hi
    rw [U.here hi]
    rfl
  · rename_i hi
    have : U.env.ts[s.i]? = none := env_out (by omega)
    rw [this]
    rfl
theorem now_num {U : Sup} {s : St} : U.env.num s = (U.now s.i).num := by
  unfold Env.num Sup.now nowT
  split
  · rename_i hi
    rw [U.here hi]
    rfl
  · rename_i hi
    have : U.env.ts[s.i]? = none := env_out (by omega)
    rw [this]
    rfl
theorem now_here {U : Sup} {s : St} : U.env.here s = (U.now s.i).at_ := by
  unfold Env.here Sup.now nowT
  split
  · rename_i hi
    rw [U.here hi]
    rfl
  · rename_i hi
    have : U.env.ts[s.i]? = none := env_out (by omega)
    rw [this]
    rfl
theorem RAt.toks {U : Sup} (hU : U.Ok) {w : World} {s : St} {xs : List (Int × Int)} (h : RAt U w s xs) : TokAt w U.ta U.ts := by
  refine ⟨hU.toks.size, fun h0 => ?_⟩
  obtain ⟨b, hb, hl, hc⟩ := hU.toks.row h0
  have hk : w.heap[b]? = U.W.heap[b]? := h.grow.block b hl (fun e => hU.off b hb (by injection e))
  have hcell : ∀ i, w.cell? ⟨b, i, none⟩ = U.W.cell? ⟨b, i, none⟩ := fun i => World.cell?_of_block hk
  exact ⟨b, hb, Nat.lt_of_lt_of_le hl h.grow.size, fun i hi => ⟨(hcell _).trans (hc i hi).1, (hcell _).trans (hc i hi).2.1, (hcell _).trans (hc i hi).2.2.1, (hcell _).trans (hc i hi).2.2.2⟩⟩
theorem RAt.cur {U : Sup} (hU : U.Ok) {w : World} {s : St} {xs : List (Int × Int)} (h : RAt U w s xs) : CAt U.W0.heap.size U.tx U.ta U.ts w s.i := ⟨h.lt, h.c0, h.c1, h.f1, h.toks hU, h.low⟩
theorem wordT_now {U : Sup} {s : St} (h : s.err = 0) : wordT U.tx U.ts s.i = U.env.word s := (now_word h).symm
set_option maxHeartbeats 1000000 in
theorem nextP_any (U : Sup) (hU : U.Ok) (s : St) (xs : List (Int × Int)) (w : World) (h : RAt U w s xs) :
    Calls Tryz.prog 61 #[.pointer (some ⟨U.W0.heap.size, 0, none⟩)] w fun e w' => e = .returned (tokA6 (U.now s.i)) ∧ Below w.heap.size w w' :=
  cnext_any _ U.tx U.ta U.ts hU.scd s.i w (h.cur hU)
theorem wordQ_any (U : Sup) (hU : U.Ok) (s : St) (xs : List (Int × Int)) (w : World) (h : RAt U w s xs) :
    Calls Tryz.prog 64 #[.pointer (some ⟨U.W0.heap.size, 0, none⟩)] w fun e w' => e = .returned (.string (mkS (U.env.word s))) ∧ Below w.heap.size w w' := by
  rw [← wordT_now h.good]
  exact cword_any _ U.tx U.ta U.ts hU.scd s.i w (h.cur hU)
theorem failQ_any (U : Sup) (hU : U.Ok) (s : St) (xs : List (Int × Int)) (w : World) (h : RAt U w s xs) (e0 : Nat) :
    Calls Tryz.prog 62 #[.pointer (some ⟨U.W0.heap.size, 0, none⟩), .int .i64 (e0 : Int)] w fun e w' => e = .panicked [{ v := .iface 101 (.agg #[.int .i64 (U.env.here s : Int), .int .i64 (e0 : Int)]), recovered := false }] ∧ Below w.heap.size w w' := by
  rw [now_here]
  exact cfail_any _ U.tx U.ta U.ts hU.scd s.i w (h.cur hU) e0
/-! ### The reader's steps -/
theorem own_block_ne {U : Sup} {w : World} {v : Value} {xs : List (Int × Int)} (h : OwnT U.W.heap.size w v xs) {k : Nat} (hk : k < U.W.heap.size) : some k ≠ v.ownBlock := fun e => by
  have := own_low h e.symm
  omega
theorem RAt.put1 {U : Sup} {w : World} {s : St} {xs : List (Int × Int)} (h : RAt U w s xs) (hi : s.i < U.ts.length) (a : Option Addr) (c : Nat) (hc : U.ts.length - (s.i + 1) ≤ c) (ha : s.i + 1 < U.ts.length → ∃ b, U.ta = some ⟨b, 0, none⟩ ∧ a = some ⟨b, (s.i + 1) * 4, none⟩) :
    RAt U (w.setCell ⟨U.W0.heap.size, 1, none⟩ (.slice a (U.ts.length - (s.i + 1)) c)) s.adv xs := by
  obtain ⟨a0, c0, e1, e2, e3⟩ := h.c1
  obtain ⟨v, d1, d2⟩ := h.c3
  refine ⟨h.grow.trans (grown_set6 _ _ _ _), h.bel.setCell (Nat.le_refl _) _, h.up, h.good, (set_other (by simp)).trans h.c0, ⟨a, c, set_same e1, hc, ha⟩, (set_other (by simp)).trans h.c2, ⟨v, (set_other (by simp)).trans d1, ownsRow_setCell_below d2 h.up _⟩, ?_, ?_, hi⟩
  · rw [World.frozen?_setCell]; exact h.f1
  · rw [World.frozen?_setCell]; exact h.f3
theorem RAt.put3 {U : Sup} {w : World} {s : St} {xs : List (Int × Int)} (h : RAt U w s xs) {v v2 : Value} {w2 : World} {ys : List (Int × Int)} (hv : w.cell? ⟨U.W0.heap.size, 3, none⟩ = some v) (ho : OwnT U.W.heap.size w v xs) (hg : w.grownBy w2 v.ownBlock) (h2 : OwnT U.W.heap.size w2 v2 ys) :
    RAt U (w2.setCell ⟨U.W0.heap.size, 3, none⟩ v2) s ys := by
  have hl := h.lt
  have hbk : w2.heap[U.W0.heap.size]? = w.heap[U.W0.heap.size]? := hg.block _ hl (own_block_ne ho h.up)
  have hc : ∀ i, w2.cell? ⟨U.W0.heap.size, i, none⟩ = w.cell? ⟨U.W0.heap.size, i, none⟩ := fun i => World.cell?_of_block hbk
  have hf : ∀ i, w2.frozen? ⟨U.W0.heap.size, i, none⟩ = w.frozen? ⟨U.W0.heap.size, i, none⟩ := fun i => World.frozen?_of_block hbk
  obtain ⟨a0, c0, e1, e2, e3⟩ := h.c1
  have hg2 : U.W.grownBy w2 (some U.W0.heap.size) := ⟨hg.os.trans h.grow.os, hg.tape.trans h.grow.tape, hg.output.trans h.grow.output, Nat.le_trans h.grow.size hg.size, fun k hk hne => (hg.block k (Nat.lt_of_lt_of_le hk h.grow.size) (own_block_ne ho hk)).trans (h.grow.block k hk hne)⟩
  have hb2 : Below U.W0.heap.size U.W0 w2 := h.bel.grown hg (Nat.le_of_lt hl) (fun k e => Nat.le_of_lt (Nat.lt_of_lt_of_le h.up (own_low ho e)))
  refine ⟨hg2.trans (grown_set6 _ _ _ _), hb2.setCell (Nat.le_refl _) _, h.up, h.good, (set_other (by simp)).trans ((hc 0).trans h.c0), ⟨a0, c0, (set_other (by simp)).trans ((hc 1).trans e1), e2, e3⟩, (set_other (by simp)).trans ((hc 2).trans h.c2), ⟨v2, set_same ((hc 3).trans hv), ownsRow_setCell_below h2 h.up _⟩, ?_, ?_, h.low⟩
  · rw [World.frozen?_setCell]; exact (hf 1).trans h.f1
  · rw [World.frozen?_setCell]; exact (hf 3).trans h.f3
theorem RAt.draws {U : Sup} {w : World} {s : St} {xs : List (Int × Int)} (h : RAt U w s xs) (n : Nat) : RAt U (w.drewN n) s xs := h.far (belDraws (Below.refl _ _) n)
theorem word_in6 {U : Sup} {s : St} {x : Bytes} (hx : x ≠ []) (h : U.env.word s = x) : s.i < U.ts.length := by
  have := in_of (V := U.env) (s := s) (by rw [h]; exact hx)
  have := this.2
  rwa [show U.env.ts.length = U.ts.length from env_len _ _ _] at this
/-- a step over a token -/
theorem RAt.skip {U : Sup} {w w' : World} {s : St} {xs : List (Int × Int)} (h : RAt U w s xs) (hi : s.i < U.ts.length) (hs : Skipped U.W0.heap.size U.ta U.ts.length s.i w w') : RAt U w' s.adv xs := by
  obtain ⟨v, d1, d2⟩ := h.c3
  exact ⟨h.grow.trans hs.grow, h.bel.grown hs.grow (Nat.le_of_lt h.lt) (fun k e => by injection e with e; omega), h.up, h.good, (hs.cj 0 (by decide)).trans h.c0, hs.c1, (hs.cj 2 (by decide)).trans h.c2, ⟨v, (hs.cj 3 (by decide)).trans d1, World.ownsRow.kept d2 hs.grow (.inr (Ne.symm (own_block_ne d2 h.up)))⟩, (hs.fj 1).trans h.f1, (hs.fj 3).trans h.f3, hi⟩
theorem skipQ_any (U : Sup) (hU : U.Ok) (s : St) (xs : List (Int × Int)) (w : World) (h : RAt U w s xs) (hi : s.i < U.ts.length) :
    Calls Tryz.prog 132 #[.pointer (some ⟨U.W0.heap.size, 0, none⟩)] w fun e w' => e = .returned (tokA6 (tkA U.ts s.i)) ∧ RAt U w' s.adv xs := by
  refine (cskip_any _ U.tx U.ta U.ts hU.scd s.i w (h.cur hU) hi).mono ?_
  rintro e w' ⟨rfl, hs⟩
  exact ⟨rfl, h.skip hi hs⟩
theorem acceptQ_no (U : Sup) (hU : U.Ok) (s : St) (xs : List (Int × Int)) (w : World) (h : RAt U w s xs) (x : Bytes) (hx : U.env.word s ≠ x) :
    Calls Tryz.prog 133 #[.pointer (some ⟨U.W0.heap.size, 0, none⟩), .string (mkS x)] w fun e w' => e = .returned (.bool false) ∧ Below w.heap.size w w' :=
  caccept_no _ U.tx U.ta U.ts hU.scd s.i w (h.cur hU) x (by rw [wordT_now h.good]; exact hx)
theorem acceptQ_yes (U : Sup) (hU : U.Ok) (s : St) (xs : List (Int × Int)) (w : World) (h : RAt U w s xs) (x : Bytes) (h0 : x ≠ []) (hx : U.env.word s = x) :
    Calls Tryz.prog 133 #[.pointer (some ⟨U.W0.heap.size, 0, none⟩), .string (mkS x)] w fun e w' => e = .returned (.bool true) ∧ RAt U w' s.adv xs := by
  refine (caccept_yes _ U.tx U.ta U.ts hU.scd s.i w (h.cur hU) x h0 (by rw [wordT_now h.good]; exact hx)).mono ?_
  rintro e w' ⟨rfl, hs⟩
  exact ⟨rfl, h.skip (word_in6 h0 hx) hs⟩
end Go.Proofs.YtdbahiepihkagaaGreatDoor
namespace Go.Proofs.YtdbahiepihkagaaGreatDoor
set_option maxRecDepth 100000

/-! ### Texts -/
def prn (s : Bytes) : Bytes := 40 :: (s ++ [41])
/-- in brackets if the level is less than the least -/
def brk (least lv : Nat) (s : Bytes) : Bytes := if lv < least then prn s else s
def leafT (ns : List Bytes) (t : Int × Int) : Bytes :=
  if t.1 = 1 then decB t.2.toNat else if t.1 = 5 then ns.getD t.2.toNat [] else if t.1 = 12 then 113 :: 46 :: ns.getD t.2.toNat [] else wordF t.1
def Ex.lv (x : Ex) : Nat := lvF x.top.1
def Ex.text (ns : List Bytes) : Ex → Bytes
  | .leaf t => leafT ns t
  | .un t a => if t.1 = 18 ∨ t.1 = 19 then wordF t.1 ++ brk 7 a.lv (a.text ns) else wordF t.1 ++ prn (a.text ns)
  | .bi t a b => if lvF t.1 = 4 then brk 5 a.lv (a.text ns) ++ 32 :: (wordF t.1 ++ 32 :: brk 5 b.lv (b.text ns)) else brk (lvF t.1) a.lv (a.text ns) ++ 32 :: (wordF t.1 ++ 32 :: brk (lvF t.1 + 1) b.lv (b.text ns))
  | .cond _ c a b => brk 2 c.lv (c.text ns) ++ 32 :: 63 :: 32 :: (a.text ns ++ 32 :: 58 :: 32 :: b.text ns)
/-- all operands in brackets -/
def Ex.full (ns : List Bytes) : Ex → Bytes
  | .leaf t => leafT ns t
  | .un t a => wordF t.1 ++ prn (a.full ns)
  | .bi t a b => prn (a.full ns) ++ 32 :: (wordF t.1 ++ 32 :: prn (b.full ns))
  | .cond _ c a b => prn (c.full ns) ++ 32 :: 63 :: 32 :: (prn (a.full ns) ++ 32 :: 58 :: 32 :: prn (b.full ns))

/-! ### Gaps -/
theorem closed_app {g h : Bytes} (hg : Closed g) (hh : Closed h) : Closed (g ++ h) := fun m => by
  rw [List.append_assoc, hg, hh, List.length_append]
  omega
def spaced : Pcs → Bytes → Pcs
  | [], _ => []
  | [x], g => [(x.1, x.2 ++ g)]
  | x :: y :: P, g => x :: spaced (y :: P) g
theorem spaced_words : ∀ (P : Pcs) (g : Bytes), (spaced P g).map Prod.fst = P.map Prod.fst
  | [], _ => rfl
  | [x], g => rfl
  | x :: y :: P, g => by
    show x.1 :: (spaced (y :: P) g).map Prod.fst = _
    rw [spaced_words (y :: P) g]
    rfl
theorem spaced_text : ∀ (P : Pcs) (g : Bytes), P ≠ [] → textP (spaced P g) = textP P ++ g
  | [], _, h => absurd rfl h
  | [x], g, _ => by
    show x.1 ++ ((x.2 ++ g) ++ []) = (x.1 ++ (x.2 ++ [])) ++ g
    simp
  | x :: y :: P, g, _ => by
    show x.1 ++ (x.2 ++ textP (spaced (y :: P) g)) = (x.1 ++ (x.2 ++ textP (y :: P))) ++ g
    rw [spaced_text (y :: P) g (by simp)]
    simp
theorem spaced_len : ∀ (P : Pcs) (g : Bytes), (spaced P g).length = P.length
  | [], _ => rfl
  | [x], g => rfl
  | x :: y :: P, g => by
    show (spaced (y :: P) g).length + 1 = _
    rw [spaced_len (y :: P) g]
    rfl
theorem spaced_head : ∀ (P : Pcs) (g : Bytes) (nx : Option UInt8), headP (spaced P g) nx = headP P nx
  | [], _, _ => rfl
  | [_], _, _ => rfl
  | _ :: _ :: _, _, _ => rfl
theorem spaced_ok {g : Bytes} (hg : Closed g) (hs : ∃ b r, g = b :: r ∧ isSep b = true) : ∀ {P : Pcs} {nx nx' : Option UInt8}, okP P nx → okP (spaced P g) nx'
  | [], _, _, _ => trivial
  | [x], nx, nx', h => by
    obtain ⟨⟨h1, h2, h3, h4⟩, _⟩ := h
    refine ⟨⟨h1, closed_app h2 hg, .inr ?_, fun e => ?_⟩, trivial⟩
    · show ∃ b r, x.2 ++ g = b :: r ∧ isSep b = true
      rcases h3 with h3 | ⟨b, r, h3, hb⟩
      · rw [h3]
        exact hs
      · exact ⟨b, r ++ g, by rw [h3]; rfl, hb⟩
    · obtain ⟨b, r, hb, _⟩ := hs
      have := (List.append_eq_nil_iff.1 e).2
      rw [hb] at this
      cases this
  | x :: y :: P, nx, nx', h => by
    obtain ⟨⟨h1, h2, h3, h4⟩, h5⟩ := h
    refine ⟨⟨h1, h2, h3, fun e b hb => h4 e b ?_⟩, spaced_ok hg hs h5⟩
    have e2 := spaced_head (y :: P) g nx'
    rw [e2] at hb
    exact hb

/-! ### What may stand behind an expression, and at its head -/
def calm (b : UInt8) : Bool := !isIn b && twos.all (fun t => !(t.getD 1 0 == b))
def start (b : UInt8) : Bool := isLet b || isDgt b || b == 40 || b == 45 || b == 33
theorem calm_joint {w : Bytes} {b : UInt8} (hw : w ≠ []) (h : calm b = true) : joint w b = true := by
  unfold calm at h
  rw [Bool.and_eq_true] at h
  obtain ⟨h1, h2⟩ := h
  cases w with
  | nil => exact absurd rfl hw
  | cons x r =>
    unfold joint
    dsimp only
    split
    · exact h1
    · have : twos.contains ((x :: r).take 1 ++ [b]) = false := by
        rw [Bool.eq_false_iff]
        intro hc
        rw [List.all_eq_true] at h2
        have h3 := h2 _ (List.contains_iff_mem.1 hc)
        simp at h3
      rw [this]
      rfl
theorem calm_sp : calm 32 = true := by decide
theorem calm_br : calm 41 = true := by decide
theorem sep_sp : ∃ b r, ([32] : Bytes) = b :: r ∧ isSep b = true := ⟨32, [], rfl, by decide⟩
theorem closed_sp : Closed [32] := closed_bl rfl closed_nil
structure Written (ns : List Bytes) (lv : Nat) (T : Bytes) (e : List (Int × Int)) (P : Pcs) : Prop where
  text : textP P = T
  spell : Spell ns lv (P.map Prod.fst) e
  ok : ∀ nx, (∀ b, nx = some b → calm b = true) → okP P nx
  head : ∃ w g Q b l, P = (w, g) :: Q ∧ w = b :: l ∧ start b = true
theorem calm_none : ∀ b, (none : Option UInt8) = some b → calm b = true := fun _ h => by cases h
theorem calm_some {c : UInt8} (h : calm c = true) : ∀ b, some c = some b → calm b = true := fun b e => by cases e; exact h
theorem Written.ne {ns : List Bytes} {lv : Nat} {T : Bytes} {e : List (Int × Int)} {P : Pcs} (h : Written ns lv T e P) : P ≠ [] := by
  obtain ⟨w, g, Q, b, l, h, _⟩ := h.head
  rw [h]
  simp
theorem Written.first {ns : List Bytes} {lv : Nat} {T : Bytes} {e : List (Int × Int)} {P : Pcs} (h : Written ns lv T e P) (nx : Option UInt8) : ∃ b, headP P nx = some b ∧ start b = true := by
  obtain ⟨w, g, Q, b, l, h1, h2, h3⟩ := h.head
  rw [h1, h2]
  exact ⟨b, rfl, h3⟩
theorem Written.lift {ns : List Bytes} {k lv : Nat} {T : Bytes} {e : List (Int × Int)} {P : Pcs} (h : Written ns k T e P) (h1 : 1 ≤ lv) (hk : lv ≤ k) (h8 : k ≤ 8) : Written ns lv T e P :=
  ⟨h.text, h.spell.lift h1 hk h8, h.ok, h.head⟩
/-- one word -/
theorem ok_one {w g : Bytes} {t : Tk} (h : tokF w = .inr t) (hl : t.len = w.length) (hg : Closed g) (hs : g = [] ∨ ∃ b r, g = b :: r ∧ isSep b = true) (nx : Option UInt8) (hn : ∀ b, nx = some b → joint w b = true) : okP [(w, g)] nx :=
  ⟨⟨⟨t, h, hl⟩, hg, hs, fun _ b hb => hn b hb⟩, trivial⟩
theorem Written.word {ns : List Bytes} {w : Bytes} {t : Tk} {e : List (Int × Int)} (h : tokF w = .inr t) (hl : t.len = w.length) (hs : Spell ns 8 [w] e) (hh : ∃ b l, w = b :: l ∧ start b = true) : Written ns 8 w e [(w, [])] :=
  ⟨by simp [textP], hs, fun nx hn => ok_one h hl closed_nil (.inl rfl) nx (fun b hb => calm_joint (tok_pos h) (hn b hb)), by
    obtain ⟨b, l, hb, hst⟩ := hh
    exact ⟨w, [], [], b, l, rfl, hb, hst⟩⟩
theorem tok_dot : tokF [46] = .inr ⟨3, 1, 0⟩ := by decide
theorem tok_q : tokF [113] = .inr ⟨1, 1, 0⟩ := by decide
theorem tok_bra : tokF [40] = .inr ⟨3, 1, 0⟩ := by decide
theorem tok_ket : tokF [41] = .inr ⟨3, 1, 0⟩ := by decide
theorem dot_joint {b : UInt8} (h : isLet b = true) : joint [46] b = true := by
  unfold joint
  have : twos.contains [46, b] = false := by
    rw [Bool.eq_false_iff]
    intro hc
    simp [twos] at hc
    subst hc
    revert h
    decide
  show (!twos.contains [46, b] || decide (([] : Bytes) ≠ [])) = true
  rw [this]
  rfl
/-- behind q and a dot -/
theorem Written.dot {ns : List Bytes} {w : Bytes} {t : Tk} {e : List (Int × Int)} (h : tokF w = .inr t) (hl : t.len = w.length) (hs : Spell ns 8 [[113], [46], w] e) (hh : ∃ b l, w = b :: l ∧ isLet b = true) : Written ns 8 (113 :: 46 :: w) e [([113], []), ([46], []), (w, [])] := by
  obtain ⟨b, l, hb, hst⟩ := hh
  refine ⟨by simp [textP], hs, fun nx hn => ?_, ⟨[113], [], _, 113, [], rfl, rfl, by decide⟩⟩
  refine ⟨⟨⟨_, tok_q, rfl⟩, closed_nil, .inl rfl, fun _ c hc => ?_⟩, ⟨⟨_, tok_dot, rfl⟩, closed_nil, .inl rfl, fun _ c hc => ?_⟩, ok_one h hl closed_nil (.inl rfl) nx (fun c hc => calm_joint (tok_pos h) (hn c hc))⟩
  · have e : (46 : UInt8) = c := by simpa [headP] using hc
    rw [← e]
    decide
  · have e : b = c := by
      rw [hb] at hc
      simpa [headP] using hc
    rw [← e]
    exact dot_joint hst
theorem bra_joint (b : UInt8) : joint [40] b = true := by
  have : twos.contains [40, b] = false := by
    rw [Bool.eq_false_iff]
    intro hc
    simp [twos] at hc
  show (!twos.contains [40, b] || decide (([] : Bytes) ≠ [])) = true
  rw [this]
  rfl
theorem start_joint {x b : UInt8} (hx : x = 45 ∨ x = 33) (h : start b = true) : joint [x] b = true := by
  have : twos.contains [x, b] = false := by
    rw [Bool.eq_false_iff]
    intro hc
    rcases hx with rfl | rfl
    · simp [twos] at hc
      subst hc
      revert h
      decide
    · simp [twos] at hc
      subst hc
      revert h
      decide
  rcases hx with rfl | rfl
  · show (!twos.contains [45, b] || decide (([] : Bytes) ≠ [])) = true
    rw [this]
    rfl
  · show (!twos.contains [33, b] || decide (([] : Bytes) ≠ [])) = true
    rw [this]
    rfl
/-- brackets with gaps behind them -/
theorem ok_brack {ns : List Bytes} {lv : Nat} {T : Bytes} {e : List (Int × Int)} {P : Pcs} (h : Written ns lv T e P) {g1 g2 : Bytes} (c1 : Closed g1) (s1 : g1 = [] ∨ ∃ b r, g1 = b :: r ∧ isSep b = true) (c2 : Closed g2) (s2 : g2 = [] ∨ ∃ b r, g2 = b :: r ∧ isSep b = true) (nx : Option UInt8) (hn : ∀ b, nx = some b → calm b = true) : okP (([40], g1) :: (P ++ [([41], g2)])) nx := by
  refine ⟨⟨⟨⟨3, 1, 0⟩, tok_bra, rfl⟩, c1, s1, fun _ b _ => bra_joint b⟩, okP_app (h.ok _ ?_) (ok_one (t := ⟨3, 1, 0⟩) tok_ket rfl c2 s2 nx (fun b hb => calm_joint (by simp) (hn b hb)))⟩
  exact calm_some calm_br
theorem Written.brack {ns : List Bytes} {lv : Nat} {T : Bytes} {e : List (Int × Int)} {P : Pcs} (h : Written ns lv T e P) (h1 : 1 ≤ lv) (h8 : lv ≤ 8) : Written ns 8 (prn T) e (([40], []) :: (P ++ [([41], [])])) := by
  refine ⟨?_, ?_, ok_brack h closed_nil (.inl rfl) closed_nil (.inl rfl), ⟨[40], [], _, 40, [], rfl, rfl, by decide⟩⟩
  · show [40] ++ ([] ++ textP (P ++ [([41], [])])) = prn T
    rw [textP_app, h.text]
    simp [textP, prn]
  · have := Spell.brack (h.spell.lift (lv := 1) (by omega) h1 h8)
    simpa using this
theorem Written.agg {ns : List Bytes} {lv : Nat} {T w : Bytes} {t : Tk} {e : List (Int × Int)} {P : Pcs} (h : Written ns lv T e P) (h1 : 1 ≤ lv) (h8 : lv ≤ 8) (hw : tokF w = .inr t) (hl : t.len = w.length) (hk : kindW w ≠ 2) (hf : factF w = 0) (ha : aggW w ≠ 0) (hh : ∃ b l, w = b :: l ∧ start b = true) (hj : joint w 40 = true) :
    Written ns 8 (w ++ prn T) ((aggW w, 0) :: e) ((w, []) :: ([40], []) :: (P ++ [([41], [])])) := by
  obtain ⟨b, l, hb, hst⟩ := hh
  refine ⟨?_, ?_, fun nx hn => ⟨⟨⟨t, hw, hl⟩, closed_nil, .inl rfl, fun _ c hc => ?_⟩, ok_brack h closed_nil (.inl rfl) closed_nil (.inl rfl) nx hn⟩, ⟨w, [], _, b, l, rfl, hb, hst⟩⟩
  · show w ++ ([] ++ ([40] ++ ([] ++ textP (P ++ [([41], [])])))) = w ++ prn T
    rw [textP_app, h.text]
    simp [textP, prn]
  · have := Spell.agg hk hf ha (h.spell.lift (lv := 1) (by omega) h1 h8)
    simpa using this
  · have e : (40 : UInt8) = c := by simpa [headP] using hc
    rw [← e]
    exact hj
theorem Written.neg {ns : List Bytes} {T : Bytes} {e : List (Int × Int)} {P : Pcs} (h : Written ns 7 T e P) : Written ns 7 (45 :: T) ((18, 0) :: e) (([45], []) :: P) := by
  refine ⟨?_, .neg h.spell, fun nx hn => ⟨⟨⟨⟨3, 1, 0⟩, by decide, rfl⟩, closed_nil, .inl rfl, fun _ c hc => ?_⟩, h.ok nx hn⟩, ⟨[45], [], _, 45, [], rfl, rfl, by decide⟩⟩
  · show [45] ++ ([] ++ textP P) = 45 :: T
    rw [h.text]
    rfl
  · obtain ⟨b, hb, hs⟩ := h.first nx
    rw [hb] at hc
    cases hc
    exact start_joint (.inl rfl) hs
theorem Written.not {ns : List Bytes} {T : Bytes} {e : List (Int × Int)} {P : Pcs} (h : Written ns 7 T e P) : Written ns 7 (33 :: T) ((19, 0) :: e) (([33], []) :: P) := by
  refine ⟨?_, .not h.spell, fun nx hn => ⟨⟨⟨⟨3, 1, 0⟩, by decide, rfl⟩, closed_nil, .inl rfl, fun _ c hc => ?_⟩, h.ok nx hn⟩, ⟨[33], [], _, 33, [], rfl, rfl, by decide⟩⟩
  · show [33] ++ ([] ++ textP P) = 33 :: T
    rw [h.text]
    rfl
  · obtain ⟨b, hb, hs⟩ := h.first nx
    rw [hb] at hc
    cases hc
    exact start_joint (.inr rfl) hs
/-- two sides and a sign between them -/
theorem ok_two {P Q : Pcs} {w : Bytes} {t : Tk} {nx n2 : Option UInt8} (hP : okP P n2) (hw : tokF w = .inr t) (hl : t.len = w.length) (hQ : okP Q nx) : okP (spaced P [32] ++ (w, [32]) :: Q) nx :=
  okP_app (spaced_ok closed_sp sep_sp hP) ⟨⟨⟨t, hw, hl⟩, closed_sp, .inr sep_sp, fun e => by cases e⟩, hQ⟩
theorem Written.two {ns : List Bytes} {k1 k2 lv : Nat} {T U w : Bytes} {t : Tk} {x y e : List (Int × Int)} {P Q : Pcs} (h : Written ns k1 T x P) (k : Written ns k2 U y Q) (hw : tokF w = .inr t) (hl : t.len = w.length) (hs : Spell ns lv (P.map Prod.fst ++ w :: Q.map Prod.fst) e) :
    Written ns lv (T ++ 32 :: (w ++ 32 :: U)) e (spaced P [32] ++ (w, [32]) :: Q) := by
  refine ⟨?_, ?_, fun nx hn => ok_two (h.ok none calm_none) hw hl (k.ok nx hn), ?_⟩
  · rw [textP_app, spaced_text _ _ h.ne, h.text]
    show T ++ [32] ++ (w ++ ([32] ++ textP Q)) = _
    rw [k.text]
    simp
  · rw [List.map_append, spaced_words]
    exact hs
  · obtain ⟨v, g, R, b, l, hP, hv, hst⟩ := h.head
    rw [hP]
    cases R with
    | nil => exact ⟨v, g ++ [32], _, b, l, rfl, hv, hst⟩
    | cons r R => exact ⟨v, g, _, b, l, rfl, hv, hst⟩
theorem Written.cond {ns : List Bytes} {T U S : Bytes} {x y z : List (Int × Int)} {P Q R : Pcs} (h : Written ns 2 T x P) (k : Written ns 1 U y Q) (j : Written ns 1 S z R) :
    Written ns 1 (T ++ 32 :: 63 :: 32 :: (U ++ 32 :: 58 :: 32 :: S)) ((43, 0) :: (x ++ (y ++ z))) (spaced P [32] ++ ([63], [32]) :: (spaced Q [32] ++ ([58], [32]) :: R)) := by
  refine ⟨?_, ?_, fun nx hn => ok_two (t := ⟨3, 1, 0⟩) (h.ok none calm_none) (by decide) rfl (ok_two (t := ⟨3, 1, 0⟩) (k.ok none calm_none) (by decide) rfl (j.ok nx hn)), ?_⟩
  · rw [textP_app, spaced_text _ _ h.ne, h.text]
    show T ++ [32] ++ ([63] ++ ([32] ++ textP (spaced Q [32] ++ ([58], [32]) :: R))) = _
    rw [textP_app, spaced_text _ _ k.ne, k.text]
    show T ++ [32] ++ ([63] ++ ([32] ++ (U ++ [32] ++ ([58] ++ ([32] ++ textP R))))) = _
    rw [j.text]
    simp
  · rw [List.map_append, spaced_words]
    show Spell ns 1 (P.map Prod.fst ++ [63] :: (spaced Q [32] ++ ([58], [32]) :: R).map Prod.fst) _
    rw [List.map_append, spaced_words]
    exact .cond h.spell k.spell j.spell
  · obtain ⟨v, g, R, b, l, hP, hv, hst⟩ := h.head
    rw [hP]
    cases R with
    | nil => exact ⟨v, g ++ [32], _, b, l, rfl, hv, hst⟩
    | cons r R => exact ⟨v, g, _, b, l, rfl, hv, hst⟩
end Go.Proofs.YtdbahiepihkagaaGreatDoor
namespace Go.Proofs.YtdbahiepihkagaaGreatDoor
set_option maxRecDepth 100000

theorem ar_leaf {op : Int} (h : arF op = 0) : 1 ≤ op ∧ op ≤ 17 := by
  unfold arF at h
  repeat' split at h
  all_goals omega
theorem ar_un {op : Int} (h : arF op = 1) : 18 ≤ op ∧ op ≤ 29 := by
  unfold arF at h
  repeat' split at h
  all_goals omega
theorem ar_bi {op : Int} (h : arF op = 2) : 30 ≤ op ∧ op ≤ 42 := by
  unfold arF at h
  repeat' split at h
  all_goals omega
theorem ar_cond {op : Int} (h : arF op = 3) : op = 43 := by
  unfold arF at h
  repeat' split at h
  all_goals omega
theorem arg_zero {t : Int × Int} {v : Int} (h : argB t v = true) (h1 : t.1 ≠ 1) (h5 : t.1 ≠ 5) (h12 : t.1 ≠ 12) : t.2 = 0 := by
  unfold argB at h
  rw [if_neg h1, if_neg (by omega)] at h
  simpa using h
/-- words of operations without operands, of one byte row -/
theorem fact_word {op : Int} (h : op = 2 ∨ op = 3 ∨ op = 4 ∨ op = 6 ∨ op = 7 ∨ op = 8 ∨ op = 9 ∨ op = 10) : (∃ t, tokF (wordF op) = .inr t ∧ t.len = (wordF op).length) ∧ kindW (wordF op) ≠ 2 ∧ factF (wordF op) = op ∧ (∃ b l, wordF op = b :: l ∧ start b = true) ∧ (wordF op).length ≤ 6 := by
  rcases h with rfl | rfl | rfl | rfl | rfl | rfl | rfl | rfl <;> exact ⟨⟨_, rfl, rfl⟩, by decide, by decide, ⟨_, _, rfl, by decide⟩, by decide⟩
theorem field_word {op : Int} (h : 13 ≤ op ∧ op ≤ 17) : ∃ v, wordF op = 113 :: 46 :: v ∧ (∃ t, tokF v = .inr t ∧ t.len = v.length) ∧ fieldF v = op ∧ (∃ b l, v = b :: l ∧ isLet b = true) ∧ v.length ≤ 6 := by
  obtain rfl | rfl | rfl | rfl | rfl : op = 13 ∨ op = 14 ∨ op = 15 ∨ op = 16 ∨ op = 17 := by omega
  all_goals exact ⟨_, rfl, ⟨_, rfl, rfl⟩, by decide, ⟨_, _, rfl, by decide⟩, by decide⟩
theorem agg_word {op : Int} (h : 20 ≤ op ∧ op ≤ 29) : (∃ t, tokF (wordF op) = .inr t ∧ t.len = (wordF op).length) ∧ kindW (wordF op) ≠ 2 ∧ factF (wordF op) = 0 ∧ aggW (wordF op) = op ∧ (∃ b l, wordF op = b :: l ∧ start b = true) ∧ joint (wordF op) 40 = true ∧ (wordF op).length ≤ 6 := by
  obtain rfl | rfl | rfl | rfl | rfl | rfl | rfl | rfl | rfl | rfl : op = 20 ∨ op = 21 ∨ op = 22 ∨ op = 23 ∨ op = 24 ∨ op = 25 ∨ op = 26 ∨ op = 27 ∨ op = 28 ∨ op = 29 := by omega
  all_goals exact ⟨⟨_, rfl, rfl⟩, by decide, by decide, by decide, ⟨_, _, rfl, by decide⟩, by decide, by decide⟩
theorem sign_word {op : Int} (h : 30 ≤ op ∧ op ≤ 42) : (∃ t, tokF (wordF op) = .inr t ∧ t.len = (wordF op).length) ∧ (binF (wordF op)).1 = op ∧ (binF (wordF op)).2 = (lvF op : Int) ∧ 2 ≤ lvF op ∧ lvF op ≤ 6 ∧ (wordF op).length ≤ 2 := by
  obtain rfl | rfl | rfl | rfl | rfl | rfl | rfl | rfl | rfl | rfl | rfl | rfl | rfl : op = 30 ∨ op = 31 ∨ op = 32 ∨ op = 33 ∨ op = 34 ∨ op = 35 ∨ op = 36 ∨ op = 37 ∨ op = 38 ∨ op = 39 ∨ op = 40 ∨ op = 41 ∨ op = 42 := by omega
  all_goals exact ⟨⟨_, rfl, rfl⟩, by decide, by decide, by decide, by decide, by decide⟩
theorem lv_un {op : Int} (h : 18 ≤ op ∧ op ≤ 29) : lvF op = if op = 18 ∨ op = 19 then 7 else 8 := by
  unfold lvF
  rw [if_neg (by omega), if_neg (by omega), if_neg (by omega), if_neg (by omega), if_neg (by omega), if_neg (by omega)]
theorem lv_leaf {op : Int} (h : 1 ≤ op ∧ op ≤ 17) : lvF op = 8 := by
  unfold lvF
  rw [if_neg (by omega), if_neg (by omega), if_neg (by omega), if_neg (by omega), if_neg (by omega), if_neg (by omega), if_neg (by omega)]
theorem lv_range (op : Int) : 1 ≤ lvF op ∧ lvF op ≤ 8 := by
  unfold lvF
  repeat' split
  all_goals omega
theorem dec_len {n : Nat} (h : n ≤ 1073741824) : (decB n).length ≤ 10 := by
  have key : ∀ k n : Nat, n < 10 ^ k → 0 < k → (decB n).length ≤ k := by
    intro k
    induction k with
    | zero => intro n _ h; omega
    | succ k ih =>
      intro n h _
      by_cases h10 : n < 10
      · rw [dec_small h10]
        simp
      · rw [dec_big (by omega), List.length_append]
        have hk : 0 < k := by
          rcases Nat.eq_zero_or_pos k with h0 | h0
          · rw [h0] at h
            omega
          · exact h0
        have := ih (n / 10) (by rw [Nat.pow_succ] at h; omega) hk
        simp
        exact this
  exact key 10 n (by omega) (by decide)
/-- a tree whose text is wanted -/
structure Fit (ns : List Bytes) (x : Ex) : Prop where
  good : goodF ns = true
  wf : x.wf
  args : x.flat.all (fun t => argB t ns.length) = true
/-- written, and its sizes -/
def Sized (ns : List Bytes) (lv : Nat) (T : Bytes) (e : List (Int × Int)) : Prop := ∃ P, Written ns lv T e P ∧ P.length + 2 ≤ 5 * e.length ∧ T.length + 2 ≤ 28 * e.length
/-- the same with brackets around it or none -/
def Boxed (ns : List Bytes) (lv : Nat) (T : Bytes) (e : List (Int × Int)) : Prop := ∃ P, Written ns lv T e P ∧ P.length ≤ 5 * e.length ∧ T.length ≤ 28 * e.length
theorem Sized.boxed {ns : List Bytes} {k lv : Nat} {T : Bytes} {e : List (Int × Int)} (h : Sized ns k T e) (h1 : 1 ≤ lv) (hk : lv ≤ k) (h8 : k ≤ 8) : Boxed ns lv T e := by
  obtain ⟨P, h2, h3, h4⟩ := h
  exact ⟨P, h2.lift h1 hk h8, by omega, by omega⟩
theorem prn_len (T : Bytes) : (prn T).length = T.length + 2 := by simp [prn]
theorem Sized.prn {ns : List Bytes} {k lv : Nat} {T : Bytes} {e : List (Int × Int)} (h : Sized ns k T e) (hk : 1 ≤ k) (h8 : k ≤ 8) (h1 : 1 ≤ lv) (hl : lv ≤ 8) : Boxed ns lv (prn T) e := by
  obtain ⟨P, h2, h3, h4⟩ := h
  exact ⟨_, (h2.brack hk h8).lift h1 hl (by omega), by simp; omega, by rw [prn_len]; omega⟩
theorem Sized.brk {ns : List Bytes} {k lv : Nat} {T : Bytes} {e : List (Int × Int)} (h : Sized ns k T e) (hk : 1 ≤ k) (h8 : k ≤ 8) (h1 : 1 ≤ lv) (hl : lv ≤ 8) : Boxed ns lv (brk lv k T) e := by
  unfold Go.Proofs.YtdbahiepihkagaaGreatDoor.brk
  split
  · exact h.prn hk h8 h1 hl
  · exact h.boxed h1 (by omega) h8
theorem leaf_sized {ns : List Bytes} {t : Int × Int} (hg : goodF ns = true) (hw : arF t.1 = 0) (ha : argB t ns.length = true) : Sized ns 8 (leafT ns t) [t] := by
  have hr := ar_leaf hw
  obtain ⟨op, a⟩ := t
  dsimp only at hr hw
  unfold leafT
  dsimp only
  by_cases h1 : op = 1
  · subst h1
    rw [if_pos rfl]
    unfold argB at ha
    dsimp only at ha
    rw [if_pos rfl, decide_eq_true_eq] at ha
    obtain ⟨n, rfl⟩ : ∃ n : Nat, a = (n : Int) := ⟨a.toNat, by omega⟩
    have hn : n ≤ 1073741824 := by omega
    have ht := dec_tok hn
    rw [Int.toNat_natCast]
    have hk : kindW (decB n) = 2 := by unfold kindW; rw [ht]
    have hv : numW (decB n) = n := by unfold numW; rw [ht]
    have hs := Spell.num (ns := ns) hk
    rw [hv] at hs
    obtain ⟨d1, _, b, l, d3, _, _⟩ := dec_facts n
    have hl := dec_len hn
    refine ⟨_, Written.word ht rfl hs ⟨b, l, d3, ?_⟩, by simp, by simp; omega⟩
    have := d1 b (by rw [d3]; simp)
    unfold start
    rw [this]
    simp
  rw [if_neg h1]
  by_cases h5 : op = 5
  · subst h5
    rw [if_pos rfl]
    unfold argB at ha
    dsimp only at ha
    rw [if_neg (by decide), if_pos (.inl rfl), decide_eq_true_eq] at ha
    obtain ⟨n, rfl⟩ : ∃ n : Nat, a = (n : Int) := ⟨a.toNat, by omega⟩
    rw [Int.toNat_natCast]
    obtain ⟨hn, hi⟩ := good_at hg (i := n) (by omega)
    have hN := name_word hn
    obtain ⟨b, l, hb, hlet⟩ := hN.head
    have hl := hN.len
    refine ⟨_, Written.word hN.tok rfl (.own hN.kind hN.fact hN.agg hN.br hN.q hn hi) ⟨b, l, hb, by unfold start; rw [hlet]; simp⟩, by simp, by show (ns.getD n []).length + 2 ≤ 28; omega⟩
  rw [if_neg h5]
  by_cases h12 : op = 12
  · subst h12
    rw [if_pos rfl]
    unfold argB at ha
    dsimp only at ha
    rw [if_neg (by decide), if_pos (.inr rfl), decide_eq_true_eq] at ha
    obtain ⟨n, rfl⟩ : ∃ n : Nat, a = (n : Int) := ⟨a.toNat, by omega⟩
    rw [Int.toNat_natCast]
    obtain ⟨hn, hi⟩ := good_at hg (i := n) (by omega)
    have hN := name_word hn
    have hl := hN.len
    exact ⟨_, Written.dot hN.tok rfl (.near hN.field hn hi) hN.head, by simp, by show (ns.getD n []).length + 1 + 1 + 2 ≤ 28; omega⟩
  rw [if_neg h12]
  have hz := arg_zero ha h1 h5 h12
  dsimp only at hz
  subst hz
  by_cases h11 : op = 11
  · subst h11
    have e : wordF 11 = [113] := rfl
    rw [e]
    exact ⟨_, Written.word tok_q rfl .here ⟨113, [], rfl, by decide⟩, by simp, by simp⟩
  by_cases h13 : 13 ≤ op
  · obtain ⟨v, hv, ⟨t, ht, hl⟩, hf, hh, hlen⟩ := field_word ⟨h13, hr.2⟩
    have hs := Spell.field (ns := ns) (w := v) (by omega)
    rw [hf] at hs
    rw [hv]
    exact ⟨_, Written.dot ht hl hs hh, by simp, by simp; omega⟩
  · obtain ⟨⟨t, ht, hl⟩, hk, hf, hh, hlen⟩ := fact_word (op := op) (by omega)
    have hs := Spell.fact (ns := ns) hk (by omega)
    rw [hf] at hs
    exact ⟨_, Written.word ht hl hs hh, by simp, by simp; omega⟩
theorem all_app {p : Int × Int → Bool} {a b : List (Int × Int)} (h : (a ++ b).all p = true) : a.all p = true ∧ b.all p = true := by rwa [List.all_append, Bool.and_eq_true] at h
theorem all_cons {p : Int × Int → Bool} {t : Int × Int} {b : List (Int × Int)} (h : (t :: b).all p = true) : p t = true ∧ b.all p = true := by rwa [List.all_cons, Bool.and_eq_true] at h
/-- an operation with its operands -/
theorem un_sized {ns : List Bytes} {t : Int × Int} {T : Bytes} {e : List (Int × Int)} {lv : Nat} (hw : arF t.1 = 1) (ht : t.2 = 0) (h1 : 1 ≤ lv) (h8 : lv ≤ 8) (hs : t.1 ≠ 18 → t.1 ≠ 19 → Sized ns lv T e) : t.1 ≠ 18 → t.1 ≠ 19 → Sized ns 8 (wordF t.1 ++ prn T) (t :: e) := by
  intro n18 n19
  obtain ⟨P, h2, h3, h4⟩ := hs n18 n19
  have hr := ar_un hw
  obtain ⟨op, a⟩ := t
  dsimp only at *
  subst ht
  obtain ⟨⟨t, k1, k2⟩, k3, k4, k5, k6, k7, k8⟩ := agg_word (op := op) (by omega)
  have := h2.agg h1 h8 k1 k2 k3 k4 (by omega) k6 k7
  rw [k5] at this
  exact ⟨_, this, by simp; omega, by rw [List.length_append, prn_len, List.length_cons]; omega⟩
theorem neg_sized {ns : List Bytes} {t : Int × Int} {T : Bytes} {e : List (Int × Int)} (ht : t.2 = 0) (hn : t.1 = 18 ∨ t.1 = 19) (hs : Boxed ns 7 T e) : Sized ns 7 (wordF t.1 ++ T) (t :: e) := by
  obtain ⟨P, h2, h3, h4⟩ := hs
  obtain ⟨op, a⟩ := t
  dsimp only at *
  subst ht
  rcases hn with rfl | rfl
  · exact ⟨_, h2.neg, by simp; omega, by show (T.length + 1) + 2 ≤ _; rw [List.length_cons]; omega⟩
  · exact ⟨_, h2.not, by simp; omega, by show (T.length + 1) + 2 ≤ _; rw [List.length_cons]; omega⟩
theorem two_sized {ns : List Bytes} {t : Int × Int} {k1 k2 : Nat} {T U : Bytes} {x y : List (Int × Int)} (hw : arF t.1 = 2) (ht : t.2 = 0) (hx : Boxed ns k1 T x) (hy : Boxed ns k2 U y) (h1 : k1 = if lvF t.1 = 4 then 5 else lvF t.1) (h2 : k2 = if lvF t.1 = 4 then 5 else lvF t.1 + 1) : Sized ns (lvF t.1) (T ++ 32 :: (wordF t.1 ++ 32 :: U)) (t :: (x ++ y)) := by
  obtain ⟨P, hP, p1, p2⟩ := hx
  obtain ⟨Q, hQ, q1, q2⟩ := hy
  have hr := ar_bi hw
  obtain ⟨op, a⟩ := t
  dsimp only at *
  subst ht
  obtain ⟨⟨t, s1, s2⟩, s3, s4, s5, s6, s7⟩ := sign_word hr
  have hs : Spell ns (lvF op) (P.map Prod.fst ++ wordF op :: Q.map Prod.fst) ((op, 0) :: (x ++ y)) := by
    have h4 := hP.spell
    have h5 := hQ.spell
    by_cases h : lvF op = 4
    · rw [if_pos h] at h1 h2
      subst h1 h2
      have := Spell.cmp (w := wordF op) (by rw [s4, h]; rfl) h4 h5
      rw [s3] at this
      rw [h]
      exact this
    · rw [if_neg h] at h1 h2
      subst h1 h2
      have := Spell.bin s5 s6 h s4 h4 h5
      rwa [s3] at this
  refine ⟨_, hP.two hQ s1 s2 hs, ?_, ?_⟩
  · rw [List.length_append, spaced_len, List.length_cons, List.length_cons, List.length_append]
    omega
  · simp
    omega
theorem cond_sized {ns : List Bytes} {t : Int × Int} {T U S : Bytes} {x y z : List (Int × Int)} (hw : arF t.1 = 3) (ht : t.2 = 0) (hx : Boxed ns 2 T x) (hy : Boxed ns 1 U y) (hz : Boxed ns 1 S z) : Sized ns 1 (T ++ 32 :: 63 :: 32 :: (U ++ 32 :: 58 :: 32 :: S)) (t :: (x ++ (y ++ z))) := by
  obtain ⟨P, hP, p1, p2⟩ := hx
  obtain ⟨Q, hQ, q1, q2⟩ := hy
  obtain ⟨R, hR, r1, r2⟩ := hz
  have hr := ar_cond hw
  obtain ⟨op, a⟩ := t
  dsimp only at *
  subst ht hr
  refine ⟨_, hP.cond hQ hR, ?_, ?_⟩
  · simp [spaced_len]
    omega
  · simp
    omega
/-- Format's text -/
theorem text_sized {ns : List Bytes} (hg : goodF ns = true) : ∀ (x : Ex), x.wf → x.flat.all (fun t => argB t ns.length) = true → Sized ns x.lv (x.text ns) x.flat
  | .leaf t, hw, ha => by
    have := leaf_sized hg hw (all_cons ha).1
    have e : (Ex.leaf t).lv = 8 := lv_leaf (ar_leaf hw)
    rw [e]
    exact this
  | .un t a, hw, ha => by
    obtain ⟨a1, a2⟩ := all_cons ha
    have hr := ar_un hw.1
    have h0 := arg_zero a1 (by omega) (by omega) (by omega)
    have ih := text_sized hg a hw.2 a2
    have hl := lv_range a.top.1
    unfold Ex.text
    have e : (Ex.un t a).lv = if t.1 = 18 ∨ t.1 = 19 then 7 else 8 := lv_un hr
    rw [e]
    by_cases hn : t.1 = 18 ∨ t.1 = 19
    · rw [if_pos hn, if_pos hn]
      exact neg_sized h0 hn (ih.brk hl.1 hl.2 (by omega) (by omega))
    · rw [if_neg hn, if_neg hn]
      exact un_sized hw.1 h0 hl.1 hl.2 (fun _ _ => ih) (by omega) (by omega)
  | .bi t a b, hw, ha => by
    obtain ⟨a1, a2⟩ := all_cons ha
    obtain ⟨a3, a4⟩ := all_app a2
    have hr := ar_bi hw.1
    have h0 := arg_zero a1 (by omega) (by omega) (by omega)
    have iha := text_sized hg a hw.2.1 a3
    have ihb := text_sized hg b hw.2.2 a4
    have hla := lv_range a.top.1
    have hlb := lv_range b.top.1
    have hlt := lv_range t.1
    obtain ⟨_, _, _, s5, s6, _⟩ := sign_word hr
    unfold Ex.text
    show Sized ns (lvF t.1) _ _
    by_cases h4 : lvF t.1 = 4
    · rw [if_pos h4]
      exact two_sized hw.1 h0 (iha.brk hla.1 hla.2 (by omega) (by omega)) (ihb.brk hlb.1 hlb.2 (by omega) (by omega)) (by rw [if_pos h4]) (by rw [if_pos h4])
    · rw [if_neg h4]
      exact two_sized hw.1 h0 (iha.brk hla.1 hla.2 (by omega) (by omega)) (ihb.brk hlb.1 hlb.2 (by omega) (by omega)) (by rw [if_neg h4]) (by rw [if_neg h4])
  | .cond t c a b, hw, ha => by
    obtain ⟨a1, a2⟩ := all_cons ha
    obtain ⟨a3, a4⟩ := all_app a2
    obtain ⟨a5, a6⟩ := all_app a4
    have hr := ar_cond hw.1
    have h0 := arg_zero a1 (by omega) (by omega) (by omega)
    have ihc := text_sized hg c hw.2.1 a3
    have iha := text_sized hg a hw.2.2.1 a5
    have ihb := text_sized hg b hw.2.2.2 a6
    have hlc := lv_range c.top.1
    have hla := lv_range a.top.1
    have hlb := lv_range b.top.1
    unfold Ex.text
    have e : (Ex.cond t c a b).lv = 1 := by
      show lvF t.1 = 1
      rw [hr]
      rfl
    rw [e]
    exact cond_sized hw.1 h0 (ihc.brk hlc.1 hlc.2 (by omega) (by omega)) (iha.boxed (by omega) hla.1 hla.2) (ihb.boxed (by omega) hlb.1 hlb.2)
/-- the text with everything in brackets -/
theorem full_sized {ns : List Bytes} (hg : goodF ns = true) : ∀ (x : Ex), x.wf → x.flat.all (fun t => argB t ns.length) = true → Sized ns x.lv (x.full ns) x.flat
  | .leaf t, hw, ha => by
    have := leaf_sized hg hw (all_cons ha).1
    have e : (Ex.leaf t).lv = 8 := lv_leaf (ar_leaf hw)
    rw [e]
    exact this
  | .un t a, hw, ha => by
    obtain ⟨a1, a2⟩ := all_cons ha
    have hr := ar_un hw.1
    have h0 := arg_zero a1 (by omega) (by omega) (by omega)
    have ih := full_sized hg a hw.2 a2
    have hl := lv_range a.top.1
    unfold Ex.full
    have e : (Ex.un t a).lv = if t.1 = 18 ∨ t.1 = 19 then 7 else 8 := lv_un hr
    rw [e]
    by_cases hn : t.1 = 18 ∨ t.1 = 19
    · rw [if_pos hn]
      exact neg_sized h0 hn (ih.prn hl.1 hl.2 (by omega) (by omega))
    · rw [if_neg hn]
      exact un_sized hw.1 h0 hl.1 hl.2 (fun _ _ => ih) (by omega) (by omega)
  | .bi t a b, hw, ha => by
    obtain ⟨a1, a2⟩ := all_cons ha
    obtain ⟨a3, a4⟩ := all_app a2
    have hr := ar_bi hw.1
    have h0 := arg_zero a1 (by omega) (by omega) (by omega)
    have iha := full_sized hg a hw.2.1 a3
    have ihb := full_sized hg b hw.2.2 a4
    have hla := lv_range a.top.1
    have hlb := lv_range b.top.1
    obtain ⟨_, _, _, s5, s6, _⟩ := sign_word hr
    unfold Ex.full
    show Sized ns (lvF t.1) _ _
    exact two_sized hw.1 h0 (iha.prn hla.1 hla.2 (by split <;> omega) (by split <;> omega)) (ihb.prn hlb.1 hlb.2 (by split <;> omega) (by split <;> omega)) rfl rfl
  | .cond t c a b, hw, ha => by
    obtain ⟨a1, a2⟩ := all_cons ha
    obtain ⟨a3, a4⟩ := all_app a2
    obtain ⟨a5, a6⟩ := all_app a4
    have hr := ar_cond hw.1
    have h0 := arg_zero a1 (by omega) (by omega) (by omega)
    have ihc := full_sized hg c hw.2.1 a3
    have iha := full_sized hg a hw.2.2.1 a5
    have ihb := full_sized hg b hw.2.2.2 a6
    have hlc := lv_range c.top.1
    have hla := lv_range a.top.1
    have hlb := lv_range b.top.1
    unfold Ex.full
    have e : (Ex.cond t c a b).lv = 1 := by
      show lvF t.1 = 1
      rw [hr]
      rfl
    rw [e]
    exact cond_sized hw.1 h0 (ihc.prn hlc.1 hlc.2 (by omega) (by omega)) (iha.prn hla.1 hla.2 (by omega) (by omega)) (ihb.prn hlb.1 hlb.2 (by omega) (by omega))
theorem brk_len {a b : Bytes} (h : a.length ≤ b.length) (k l : Nat) : (brk k l a).length ≤ (prn b).length := by
  unfold brk
  rw [prn_len]
  split
  · rw [prn_len]
    omega
  · omega
/-- Format's text is not longer -/
theorem text_full (ns : List Bytes) : ∀ (x : Ex), (x.text ns).length ≤ (x.full ns).length
  | .leaf t => Nat.le_refl _
  | .un t a => by
    have h := text_full ns a
    have h1 := brk_len h 7 a.lv
    have h2 := prn_len (a.text ns)
    have h3 := prn_len (a.full ns)
    unfold Ex.text Ex.full
    split
    · rw [List.length_append, List.length_append]
      omega
    · rw [List.length_append, List.length_append]
      omega
  | .bi t a b => by
    have ha := text_full ns a
    have hb := text_full ns b
    have h1 := fun k => brk_len ha k a.lv
    have h2 := fun k => brk_len hb k b.lv
    have a5 := h1 5
    have b5 := h2 5
    have ak := h1 (lvF t.1)
    have bk := h2 (lvF t.1 + 1)
    unfold Ex.text Ex.full
    split
    · simp only [List.length_append, List.length_cons]
      omega
    · simp only [List.length_append, List.length_cons]
      omega
  | .cond t c a b => by
    have hc := brk_len (text_full ns c) 2 c.lv
    have ha := text_full ns a
    have hb := text_full ns b
    have pa := prn_len (a.full ns)
    have pb := prn_len (b.full ns)
    unfold Ex.text Ex.full
    simp only [List.length_append, List.length_cons]
    omega
/-- a text around which brackets stand, with gaps -/
def around : Nat → Bytes → Bytes
  | 0, s => s
  | k + 1, s => around k (40 :: 32 :: (s ++ [41, 35, 32, 120, 10]))
theorem around_ok {ns : List Bytes} {e : List (Int × Int)} : ∀ (k : Nat) {P : Pcs}, okP P (some 41) → okP P none → Spell ns 1 (P.map Prod.fst) e → ∃ Q, textP Q = around k (textP P) ∧ okP Q none ∧ Spell ns 1 (Q.map Prod.fst) e ∧ Q.length = P.length + 2 * k ∧ (textP Q).length = (textP P).length + 7 * k
  | 0, P, _, h, hs => ⟨P, rfl, h, hs, by omega, by omega⟩
  | k + 1, P, h41, h, hs => by
    have cg : Closed [35, 32, 120, 10] := closed_hash [32, 120] (by decide) closed_nil
    have hnew : ∀ nx, okP (([40], [32]) :: (P ++ [([41], [35, 32, 120, 10])])) nx := fun nx =>
      ⟨⟨⟨⟨3, 1, 0⟩, tok_bra, rfl⟩, closed_sp, .inr sep_sp, fun e => by cases e⟩, okP_app h41 ⟨⟨⟨⟨3, 1, 0⟩, tok_ket, rfl⟩, cg, .inr ⟨35, [32, 120, 10], rfl, by decide⟩, fun e => by cases e⟩, trivial⟩⟩
    have hsp : Spell ns 1 ((([40], [32]) :: (P ++ [([41], [35, 32, 120, 10])])).map Prod.fst) e := by
      have := (Spell.brack hs).lift (lv := 1) (by omega) (by omega) (by omega)
      simpa using this
    have ht : textP (([40], [32]) :: (P ++ [([41], [35, 32, 120, 10])])) = 40 :: 32 :: (textP P ++ [41, 35, 32, 120, 10]) := by
      show [40] ++ ([32] ++ textP (P ++ [([41], [35, 32, 120, 10])])) = _
      rw [textP_app]
      simp [textP]
    obtain ⟨Q, q1, q2, q3, q4, q5⟩ := around_ok k (hnew _) (hnew _) hsp
    refine ⟨Q, ?_, q2, q3, ?_, ?_⟩
    · rw [q1, ht]
      rfl
    · rw [q4]
      simp
      omega
    · rw [q5, ht]
      simp
      omega
/-- what is read of a written text -/
theorem sized_read {ns : List Bytes} {lv k : Nat} {T : Bytes} {e : List (Int × Int)} (hg : goodF ns = true) (h : Sized ns lv T e) (h1 : 1 ≤ lv) (h8 : lv ≤ 8) (hv : validE e ns.length = true) (hk : k ≤ 20) : parseF (around k T) ns = (e, 0, 0) ∧ (around k T).length ≤ 6000 := by
  obtain ⟨P, hP, h2, h3⟩ := h
  have hl : e.length ≤ 200 := by
    unfold validE at hv
    simp only [Bool.and_eq_true, decide_eq_true_eq] at hv
    exact hv.1.1.1.1
  obtain ⟨Q, q1, q2, q3, q4, q5⟩ := around_ok k (hP.ok _ (calm_some calm_br)) (hP.ok none calm_none) (hP.spell.lift (lv := 1) (by omega) h1 h8)
  rw [hP.text] at q1 q5
  have := parse_text hg q2 (by omega) (by omega) q3 hv
  rw [q1] at this q5
  exact ⟨this, by omega⟩
end Go.Proofs.YtdbahiepihkagaaGreatDoor
