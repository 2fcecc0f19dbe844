/- A range over a map of links, and what graph.around answers. -/
import Derived.Test.YtkffpipcjdhbaaaLinks2
namespace Go.Proofs.Ytkffpipcjdhbaaa
open Go.RowKit Go.Maps

/-- a range over the map of links L is under way: those of todo are still to come -/
def LinkRange (w : World) (b r : Nat) (L todo : List (Nat × Nat)) : Prop :=
  (∀ p ∈ L, Near p) ∧ (∀ p ∈ todo, p ∈ L) ∧ ∃ (D : DataW Unit) (left : Lit → Bool) (cnt : Nat), w.ranges Try.prog 84 (plainElem Try.prog 4) b r L.length D left cnt ∧ ∀ kl, left kl = true ↔ ∃ p ∈ todo, kl = linkLit p

theorem LinkRange.kept {w w' : World} {b r : Nat} {L todo : List (Nat × Nat)} {row : Option Nat} (h : LinkRange w b r L todo) (hg : w.grownBy w' row) (hb : some b ≠ row) (hr : some r ≠ row) : LinkRange w' b r L todo := by
  obtain ⟨h1, h2, D, left, cnt, h3, h4⟩ := h
  exact ⟨h1, h2, D, left, cnt, h3.kept hg hb hr, h4⟩
theorem LinkRange.alloc {w : World} {b r : Nat} {L todo : List (Nat × Nat)} (h : LinkRange w b r L todo) (o : Obj) : LinkRange (w.alloc o) b r L todo := h.kept (World.grownBy_alloc w o none) (by simp) (by simp)
theorem left_kept {w w' : World} {b r : Nat} {L todo : List (Nat × Nat)} {row : Option Nat} (h : LinkRange w b r L todo) (hg : w.grownBy w' row) (hb : some b ≠ row) (hr : some r ≠ row) : w'.rangeLeft b r = w.rangeLeft b r := by
  obtain ⟨h1, h2, D, left, cnt, h3, h4⟩ := h
  rw [h3.left_eq, (h3.kept hg hb hr).left_eq]

theorem linkRange_start {w' : World} {b r : Nat} {L : List (Nat × Nat)} {D : DataW Unit} (h1 : ∀ p ∈ L, Near p) (h5 : ∀ kl, Maps.has D kl = true ↔ ∃ p ∈ L, kl = linkLit p) (h : w'.ranges Try.prog 84 (plainElem Try.prog 4) b r L.length D (Maps.has D) (Maps.size D)) : LinkRange w' b r L L :=
  ⟨h1, fun _ h => h, D, _, _, h, h5⟩

theorem plainElem_bool_inv {v : Value} {y : DataW Unit × List MemPlace} (h : plainElem Try.prog 4 v = some y) : ∃ c : Bool, v = .bool c := by
  have hu : Try.prog.underlying 4 = some .bool := Try.underlying4
  unfold plainElem at h
  rw [hu] at h
  cases v <;> simp at h
  exact ⟨_, rfl⟩

section
variable {w : World} {ops : Array Oper} {rest : List Oper} {o : Oper} {a : Act} {Q : Exit → Act → World → Prop}
theorem wpList_next_links (hg : o.guard = none) (it : Operand) (hop : o.op = Op.next it false) (b r : Nat) (L todo : List (Nat × Nat))
    (hit : a.eval it = .pointer (some ⟨r, 0, none⟩)) (h : LinkRange w b r L todo)
    (hDone : todo = [] → wpList Try.prog ops Q rest (a.put o.dst (.tuple #[.bool false])) w)
    (hMore : ∀ (x y : Nat) (c : Value) (todo' : List (Nat × Nat)) (w' : World), (x, y) ∈ todo → (∀ q, q ∈ todo' ↔ q ∈ todo ∧ q ≠ (x, y)) → LinkRange w' b r L todo' → w'.rangeLeft b r < w.rangeLeft b r →
      w.grownBy w' (some r) → w'.heap.size = w.heap.size → (Instr.entry (.pointer (some ⟨r, 0, none⟩))).run Try.prog w' = .ok (.tuple #[.agg #[.int .i64 (x : Int), .int .i64 (y : Int)], c]) w' → wpList Try.prog ops Q rest (a.put o.dst (.tuple #[.bool true, .agg #[.int .i64 (x : Int), .int .i64 (y : Int)], c])) w') :
    wpList Try.prog ops Q (o :: rest) a w := by
  obtain ⟨h1, h2, D, left, cnt, h3, h4⟩ := h
  refine wpList_next_ranges w hg it hop 84 linkLaw (plainElem Try.prog 4) (fun x : Int × Int => .agg #[.int .i64 x.1, .int .i64 x.2]) Value.bool (fun key kl hk => by obtain ⟨u, v, e⟩ := keyOf_some hk; exact ⟨(u, v), e⟩) (fun v y hv => plainElem_bool_inv hv) b r L.length D left cnt hit h3 (fun _ hl => ?_) ?_
  · refine hDone ?_
    cases ht : todo with
    | nil => rfl
    | cons p t =>
      have := (h4 (linkLit p)).2 ⟨p, by rw [ht]; exact List.mem_cons_self, rfl⟩
      rw [hl] at this
      cases this
  · intro x c kl y w' cnt' hkey hlk _ _ hrg hlt hgr hsz hen
    obtain ⟨p, hp, rfl⟩ := (h4 kl).1 hlk
    have hnp := h1 p (h2 p hp)
    have hx := linkLaw.inj hkey (keyOf_link hnp)
    obtain ⟨p1, p2⟩ := p
    obtain ⟨x1, x2⟩ := x
    simp [linkV] at hx
    obtain ⟨rfl, rfl⟩ := hx
    refine hMore p1 p2 (.bool c) (todo.filter fun q => q ≠ (p1, p2)) w' hp (fun q => by simp) ⟨h1, fun q hq => h2 q (List.mem_filter.1 hq).1, D, _, _, hrg, fun kl => ?_⟩ (by rw [hrg.left_eq, h3.left_eq]; exact hlt) hgr hsz hen
    simp only [Bool.and_eq_true, h4]
    constructor
    · rintro ⟨⟨q, hq, rfl⟩, hne⟩
      refine ⟨q, List.mem_filter.2 ⟨hq, ?_⟩, rfl⟩
      simp only [decide_eq_true_eq]
      rintro rfl
      rw [WideAt.sameKey_self (linkLit_key hnp)] at hne
      cases hne
    · rintro ⟨q, hq, rfl⟩
      obtain ⟨hq, hne⟩ := List.mem_filter.1 hq
      refine ⟨⟨q, hq, rfl⟩, ?_⟩
      cases hs : (linkLit q).sameKey (linkLit (p1, p2)) with
      | false => rfl
      | true =>
        have := linkLit_inj (h1 q (h2 q hq)) hnp (WideAt.sameKey_eq hs)
        simp [this] at hne
end

/-- the nodes that a link of L joins to an element of set -/
def arF (set : Nat) : List (Nat × Nat) → Nat
  | [] => 0
  | p :: l => (arF set l ||| (if set.testBit p.1 then 2 ^ p.2 else 0)) ||| (if set.testBit p.2 then 2 ^ p.1 else 0)
def Hit (set j : Nat) (p : Nat × Nat) : Prop := (set.testBit p.1 = true ∧ j = p.2) ∨ (set.testBit p.2 = true ∧ j = p.1)
theorem if_bit {c : Bool} {d j : Nat} : (if c then 2 ^ d else 0 : Nat).testBit j = true ↔ c = true ∧ j = d := by
  cases c
  · simp
  · simp [Nat.testBit_two_pow]; omega
theorem arF_bit {set j : Nat} : ∀ {L : List (Nat × Nat)}, (arF set L).testBit j = true ↔ ∃ p ∈ L, Hit set j p
  | [] => by simp [arF]
  | p :: l => by
    rw [arF, Nat.testBit_or, Nat.testBit_or, Bool.or_eq_true, Bool.or_eq_true, arF_bit, if_bit, if_bit]
    constructor
    · rintro ((⟨q, hq, h⟩ | h) | h)
      · exact ⟨q, List.mem_cons_of_mem _ hq, h⟩
      · exact ⟨p, List.mem_cons_self, .inl h⟩
      · exact ⟨p, List.mem_cons_self, .inr h⟩
    · rintro ⟨q, hq, h⟩
      rcases List.mem_cons.1 hq with rfl | hq
      · rcases h with h | h
        · exact .inl (.inr h)
        · exact .inr h
      · exact .inl (.inl ⟨q, hq, h⟩)
theorem arF_lt {set : Nat} : ∀ {L : List (Nat × Nat)}, (∀ p ∈ L, Near p) → arF set L < 4294967296
  | [], _ => by simp [arF]
  | p :: l, h => by
    have hp := h p List.mem_cons_self
    have h1 : ∀ (c : Bool) (d : Nat), d < 24 → (if c then 2 ^ d else 0 : Nat) < 4294967296 := fun c d hd => by
      split
      · exact pow32 (by omega)
      · decide
    rw [arF]
    exact or_lt (or_lt (arF_lt fun q hq => h q (List.mem_cons_of_mem _ hq)) (h1 _ _ hp.2)) (h1 _ _ hp.1)

set_option maxHeartbeats 1000000 in
theorem around_any (ia pa : Option Addr) (il ic pl pc : Nat) (G : Gr) (set : Nat) (w : World) (hG : GraphAt w ia il pa pl G) (hV : ValidG G) (hset : set < 4294967296) :
    Calls Try.prog 79 #[.agg #[.slice ia il ic, .slice pa pl pc], .int .u32 (set : Int)] w fun e w' => e = .returned (.int .u32 (arF set (allLinks G pl))) ∧ Below w.heap.size w w' := by
  go_enter Try.func79, Try.ntmps79
  go_wp2_with (first
    | (go_at_call 75; refine (linksOf_any _ _ _ _ _ _ G _ (hG.alloc _) hV).mono ?_; rintro e w1 ⟨⟨b, rfl, hbge, hM⟩, hb1⟩; have hbx : Below (w.heap.size + 1) (w.alloc (.cells #[.slice ia il ic, .slice pa pl pc] 26)) w1 := (by simpa using hb1); have hbl := hM.lt; obtain ⟨hnd, hnear, D, hown, hsize, hhas⟩ := hM; have hb1 := Lib.hid hb1)
    | (at_range; refine wpList_range_own _ rfl _ 75 rfl 84 4 linkLaw mapUnder _ b _ D rfl hown ?_; intro w2 hrg2 hg2 hs2; have hLR := linkRange_start hnear hhas hrg2; have hb2 := Lib.hid (hbx.grown hg2 (by have := hbx.size; simp at this; omega) (by rintro k ⟨⟩)); clear hbx hrg2 hown hhas hsize hnd))
  have Hnear := Lib.hid hnear
  clear hnear
  simp at hbge
  go_frame
  go_loopw [5] (fun t wr => ∃ (S : Nat) (todo : List (Nat × Nat)), t = .int .u32 S ∧ S < 4294967296 ∧ LinkRange wr b w1.heap.size (allLinks G pl) todo ∧ (∀ j, S.testBit j = true ↔ ∃ p ∈ allLinks G pl, p ∉ todo ∧ Hit set j p) ∧
    Below (w.heap.size + 1) (w.alloc (.cells #[.slice ia il ic, .slice pa pl pc] 26)) wr ∧ w1.heap.size < wr.heap.size) (fun _ wr => wr.rangeLeft b w1.heap.size)
  case atStart =>
    refine ⟨0, allLinks G pl, rfl, by decide, hLR, fun j => ?_, hb2.out, by omega⟩
    simp
    exact fun a b h1 h2 => absurd h1 h2
  case round =>
    obtain ⟨S, todo, rfl, hS, hL, hbits, hbel, hsz⟩ := hrel
    have Hbits := Lib.hid hbits
    clear hbits
    go_wp2_with (at_next; refine wpList_next_links rfl _ rfl b w1.heap.size (allLinks G pl) todo rfl hL ?_ ?_)
    · intro hnil
      have Hret := Lib.hid (show arF set (allLinks G pl) = S from by
        apply Nat.eq_of_testBit_eq
        intro j
        rw [Bool.eq_iff_iff, arF_bit, Hbits.out j, hnil]
        simp)
      go_wp2
      go_ret
      exact ⟨ret_int (by rw [Hret.out]), belBox hbel⟩
    · intro x y c todo' w3 hin hto hL3 hlt hg3 hs3 hen
      have hin := hL.2.1 _ hin
      have hN := Hnear.out _ hin
      have hx24 : x < 24 := hN.1
      have hy24 : y < 24 := hN.2
      have hx24' : (x : Int) < 24 := by omega
      have hy24' : (y : Int) < 24 := by omega
      have Hto := Lib.hid hto
      clear hto hN
      have hbel3 := hbel.grown hg3 (by omega) (by rintro k ⟨⟩; omega)
      have hL4 := hL3.alloc (.cells #[.int .i64 (x : Int), .int .i64 (y : Int)] 84)
      have hm4 := left_kept hL3 (World.grownBy_alloc w3 (.cells #[.int .i64 (x : Int), .int .i64 (y : Int)] 84) none) (by simp) (by simp)
      have hbel4 := hbel3.alloc (by omega) (.cells #[.int .i64 (x : Int), .int .i64 (y : Int)] 84)
      have Hstep := Lib.hid (fun (T : Nat) (hT : ∀ j, T.testBit j = true ↔ S.testBit j = true ∨ Hit set j (x, y)) (j : Nat) => show T.testBit j = true ↔ ∃ p ∈ allLinks G pl, p ∉ todo' ∧ Hit set j p from by
        rw [hT, Hbits.out]
        constructor
        · rintro (⟨⟨p1, p2⟩, h1, h2, h3⟩ | h)
          · exact ⟨(p1, p2), h1, fun h => h2 ((Hto.out p1 p2).1 h).1, h3⟩
          · exact ⟨(x, y), hin, fun h => ((Hto.out x y).1 h).2 rfl rfl, h⟩
        · rintro ⟨⟨p1, p2⟩, h1, h2, h3⟩
          by_cases h4 : p1 = x ∧ p2 = y
          · rw [h4.1, h4.2] at h3
            exact .inr h3
          · exact .inl ⟨(p1, p2), h1, fun h => h2 ((Hto.out p1 p2).2 ⟨h, fun e1 e2 => h4 ⟨e1, e2⟩⟩), h3⟩)
      cases hbx : set.testBit x <;> cases hby : set.testBit y
      · have hb1 := bit_out hset hbx
        have hb2' := bit_out hset hby
        go_wp2
        go_roundw
        case rel => exact ⟨S, todo', rfl, hS, hL4, Hstep.out S (fun j => by simp [Hit, hbx, hby]), hbel4, by simp; omega⟩
        case measure => omega
      · have hb1 := bit_out hset hbx
        have hb2' := bit_in hset hby
        have hor := bit_or hS (show x < 32 by omega)
        go_wp2
        go_roundw
        case rel => exact ⟨S ||| 2 ^ x, todo', rfl, or_lt hS (pow32 (by omega)), hL4, Hstep.out _ (fun j => by rw [or_bit_iff]; simp [Hit, hbx, hby]), hbel4, by simp; omega⟩
        case measure => omega
      · have hb1 := bit_in hset hbx
        have hb2' := bit_out hset hby
        have hor := bit_or hS (show y < 32 by omega)
        go_wp2
        go_roundw
        case rel => exact ⟨S ||| 2 ^ y, todo', rfl, or_lt hS (pow32 (by omega)), hL4, Hstep.out _ (fun j => by rw [or_bit_iff]; simp [Hit, hbx, hby]), hbel4, by simp; omega⟩
        case measure => omega
      · have hb1 := bit_in hset hbx
        have hb2' := bit_in hset hby
        have hS2 := or_lt hS (pow32 (show y < 32 by omega))
        have hor := bit_or hS (show y < 32 by omega)
        have hor2 := bit_or hS2 (show x < 32 by omega)
        go_wp2
        go_roundw
        case rel => exact ⟨(S ||| 2 ^ y) ||| 2 ^ x, todo', rfl, or_lt hS2 (pow32 (by omega)), hL4, Hstep.out _ (fun j => by rw [or_bit_iff, or_bit_iff]; simp [Hit, hbx, hby, or_assoc]), hbel4, by simp; omega⟩
        case measure => omega
end Go.Proofs.Ytkffpipcjdhbaaa
