/- Package cursor in memory: what Next, Word, Fail, Skip and Accept answer, at whatever struct the cursor lies at the head of. -/
import Derived.Test.YtdbahiepihkagaaGreatDoorExprFail
import Derived.Laws.OwnMore
import Derived.Test.YtdbahiepihkagaaGreatDoorExprNames
import Derived.Recover
namespace Go.Proofs.YtdbahiepihkagaaGreatDoor
set_option maxRecDepth 100000
open Go.RowKit

/-- an outcome: a list of the call's own, and a step -/
def Out6 (U : Sur) (w : World) (o : Out) (e : Ending) (w' : World) : Prop :=
  ∃ a c, e = .returned (.slice a o.1.length c) ∧ OwnT (U.W.heap.size + 1) w' (.slice a o.1.length c) o.1 ∧ Step6 U w w' o.2
theorem grown_alloc6 (w : World) (o : Obj) (r : Option Nat) : w.grownBy (w.alloc o) r := by
  have h := (Below.refl w.heap.size w).alloc (Nat.le_refl _) o
  exact ⟨h.os, h.tape, h.output, h.size, fun k hk _ => h.block k hk⟩
theorem below_alloc6 (w : World) (o : Obj) : Below w.heap.size w (w.alloc o) := (Below.refl _ _).alloc (Nat.le_refl _) o
theorem OwnT.none6 (B : Nat) (w : World) : OwnT B w (.slice none 0 0) [] := World.ownsRow_nil _ _ _ _
/-- a list of one's own stands over a step -/
theorem OwnT.step {U : Sur} {w w' : World} {s' : St} {v : Value} {xs : List (Int × Int)} (h : OwnT (U.W.heap.size + 1) w v xs) (hs : Step6 U w w' s') : OwnT (U.W.heap.size + 1) w' v xs :=
  World.ownsRow.kept h hs.grow (by
    rcases h.2 with ⟨rfl, _⟩ | ⟨g, cap, cur, rfl, hB, _⟩
    · simp [Value.ownBlock]
    · simp [Value.ownBlock]
      omega)
theorem Step6.trans {U : Sur} {w w1 w2 : World} {s1 s2 : St} (h : Step6 U w w1 s1) (k : Step6 U w1 w2 s2) : Step6 U w w2 s2 := ⟨k.at_, h.grow.trans k.grow⟩
theorem Step6.draws {U : Sur} {w : World} {s : St} (h : PAt U w s) (n : Nat) : Step6 U w (w.drewN n) s := ⟨h.drew n, grown_draws _ _ _⟩
theorem Step6.quiet {U : Sur} {w w' : World} {s : St} (h : PAt U w s) (hm : ∃ m, w' = w.drewN m) : Step6 U w w' s := by
  obtain ⟨m, rfl⟩ := hm
  exact Step6.draws h m
theorem Step6.alloc {U : Sur} {w w1 : World} {s1 : St} (h : Step6 U w w1 s1) (o : Obj) : Step6 U w (w1.alloc o) s1 := ⟨h.at_.far (below_alloc6 _ _), h.grow.trans (grown_alloc6 _ _ _)⟩
theorem Step6.adv {U : Sur} {w w1 : World} {s : St} (h : Step6 U w w1 s) (hi : s.i < U.ts.length) : Step6 U w (w1.setCell ⟨U.W.heap.size, 3, none⟩ (.int .i64 ((s.i : Int) + 1))) s.adv := by
  have e : (s.i : Int) + 1 = ((s.i + 1 : Nat) : Int) := by omega
  rw [e]
  exact ⟨h.at_.set3 _ hi, h.grow.trans (grown_set6 _ _ _ _)⟩
/-- a new list of one term -/
theorem lit6 {U : Sur} {w : World} {s : St} (h : PAt U w s) (a b : Int) : OwnT (U.W.heap.size + 1) (w.alloc (.cells #[.int .i64 a, .int .i64 b] 55)) (.slice (some ⟨w.heap.size, 0, none⟩) 1 1) [(a, b)] :=
  OwnT.lit w _ [(a, b)] #[.int .i64 a, .int .i64 b] 1 rfl rfl h.lt (by simp [maxLen])
/-- the same behind a store into the reader's struct -/
theorem lit6s {U : Sur} {w : World} {s : St} (h : PAt U w s) (p : Addr) (v : Value) (xs : List (Int × Int)) (cs : Array Value) (n : Nat) (hn : n = xs.length) (hc : cs.toList = linkVs xs) (hm : xs.length ≤ maxLen) : OwnT (U.W.heap.size + 1) ((w.setCell p v).alloc (.cells cs 55)) (.slice (some ⟨w.heap.size, 0, none⟩) n n) xs := by
  have := OwnT.lit (w.setCell p v) (U.W.heap.size + 1) xs cs n hn hc (by rw [setCell_size]; exact h.lt) hm
  rwa [setCell_size] at this
theorem idx_cases (ns : List Bytes) (l : Bytes) : (idxN ns l = none ∧ idxI ns l = -1) ∨ ∃ x : Nat, idxN ns l = some x ∧ idxI ns l = (x : Int) := by
  unfold idxI
  cases idxN ns l with
  | none => exact .inl ⟨rfl, rfl⟩
  | some x => exact .inr ⟨x, rfl, rfl⟩
theorem good_few {ns : List Bytes} (h : goodF ns = true) : ns.length ≤ 6 := by
  unfold goodF at h
  rw [Bool.and_eq_true, decide_eq_true_eq] at h
  exact h.1
set_option maxHeartbeats 1000000 in
theorem varP_any (U : Sur) (hU : U.Ok) (s : St) (w : World) (h : PAt U w s) (op : Int) :
    Calls Tryz.prog 196 #[.pointer (some ⟨U.W.heap.size, 0, none⟩), .int .i64 op] w (Out6 U w (U.env.var op s)) := by
  have HWd := Lib.hid (fun W (h : PAt U W s) => wordP_any U hU s W h)
  have HF := Lib.hid (fun W (h : PAt U W s) (k : Nat) => failP_any U hU s W h k)
  have HP := Lib.hid h
  have hnm := fun W => nameR_any (mkS (U.env.word s)) W
  rw [mkS_list] at hnm
  have HNM := Lib.hid hnm
  have HI := Lib.hid (fun W (h : PAt U W s) => indexR_any U.na U.nc U.ns (U.env.word s) W (hU.names.below h.bel rfl) (by have := good_few hU.good; omega))
  have HV : Hid (U.env.var op s = if nameF (U.env.word s) = false then ([], U.env.fail s 4) else match idxN U.ns (U.env.word s) with
    | none => ([], U.env.fail s 5)
    | some x => ([(op, (x : Int))], s.adv)) := Lib.hid rfl
  have HIn : Hid (nameF (U.env.word s) = true → s.i < U.ts.length) := Lib.hid (fun hn => by
    have := in_of (V := U.env) (s := s) (by intro e; rw [e] at hn; cases hn)
    exact (by have := this.2; rwa [show U.env.ts.length = U.ts.length from env_len _ _ _] at this))
  have hc1 := h.c1
  have hc3 := h.c3
  have hf3 := h.f3
  have hlow := h.low
  have hfew := hU.few
  have hidx := idx_cases U.ns (U.env.word s)
  clear hnm h hU
  generalize hpb : U.W.heap.size = pb at *
  generalize U.env.var op s = o at *
  generalize U.env.word s = y at *
  unfold Out6
  rw [hpb]
  cases hn : nameF y with
  | false =>
    rw [hn] at HNM
    rw [hn, if_pos rfl] at HV
    have ho := HV.out
    clear HI hidx
    subst ho
    go_enter Tryz.func196, Tryz.ntmps196
    go_wp2_with (first | (go_at_call 142; refine (HWd.out _ HP.out).mono ?_; rintro e w1 ⟨rfl, hm⟩; have S1 := Step6.quiet HP.out hm; clear hm) | (go_at_call 73; refine (HNM.out _).mono ?_; rintro e w2 ⟨rfl, rfl⟩) | (go_at_call 39; refine (HF.out _ S1.at_ 4).mono ?_; rintro e w3 ⟨rfl, h3⟩))
    go_ret
    exact ⟨none, 0, rfl, OwnT.none6 _ _, S1.trans h3⟩
  | true =>
    rw [hn] at HNM
    rw [hn, if_neg (by decide)] at HV
    have hi := HIn.out hn
    rcases hidx with ⟨hx, hz⟩ | ⟨x, hx, hz⟩
    · rw [hx] at HV
      rw [hz] at HI
      have ho := HV.out
      subst ho
      go_enter Tryz.func196, Tryz.ntmps196
      go_wp2_with (first | (go_at_call 142; refine (HWd.out _ HP.out).mono ?_; rintro e w1 ⟨rfl, hm⟩; have S1 := Step6.quiet HP.out hm; clear hm) | (go_at_call 73; refine (HNM.out _).mono ?_; rintro e w2 ⟨rfl, rfl⟩))
      have k1 := S1.at_.c1
      have k3 := S1.at_.c3
      have kf := S1.at_.f3
      rw [hpb] at k1 k3 kf
      go_quiet ((first | (go_at_call 142; exact Calls.quiet_of (HWd.out _ (S1.at_.drew _))) | (go_at_call 74; exact Calls.quiet_of_same (HI.out _ (S1.at_.drew _)))))
      go_wp2_with (go_at_call 39; refine (HF.out _ (S1.at_.drew nq) 5).mono ?_; rintro e w3 ⟨rfl, h3⟩)
      go_ret
      exact ⟨none, 0, rfl, OwnT.none6 _ _, (S1.trans (Step6.draws S1.at_ nq)).trans h3⟩
    · rw [hx] at HV
      rw [hz] at HI
      have ho := HV.out
      subst ho
      go_enter Tryz.func196, Tryz.ntmps196
      go_wp2_with (first | (go_at_call 142; refine (HWd.out _ HP.out).mono ?_; rintro e w1 ⟨rfl, hm⟩; have S1 := Step6.quiet HP.out hm; clear hm) | (go_at_call 73; refine (HNM.out _).mono ?_; rintro e w2 ⟨rfl, rfl⟩))
      have k1 := S1.at_.c1
      have k3 := S1.at_.c3
      have kf := S1.at_.f3
      rw [hpb] at k1 k3 kf
      go_quiet ((first | (go_at_call 142; exact Calls.quiet_of (HWd.out _ (S1.at_.drew _))) | (go_at_call 74; exact Calls.quiet_of_same (HI.out _ (S1.at_.drew _)))))
      go_wp2_with fail
      go_ret
      have hS := (S1.trans (Step6.draws S1.at_ nq)).adv hi
      rw [hpb] at hS
      refine ⟨_, _, rfl, ?_, hS.alloc _⟩
      have := lit6s (S1.at_.drew nq) ⟨pb, 3, none⟩ (.int .i64 ((s.i : Int) + 1)) [(op, (x : Int))] #[.int .i64 op, .int .i64 x] 1 rfl rfl (by simp [maxLen])
      rw [hpb] at this
      exact this
end Go.Proofs.YtdbahiepihkagaaGreatDoor
namespace Go.Proofs.YtdbahiepihkagaaGreatDoor
set_option maxRecDepth 100000
open Go.RowKit

section
variable {ops : Array Oper} {o : Oper} {a : Act} {w W : World} {K : Act → World → Prop} {Q : Exit → Act → World → Prop} {E : Prop} {rest : List Oper}
theorem run_appO (ty : TypeId) (B B2 : Nat) (v u : Value) (ys xs : List (Int × Int)) (hown : OwnT B w v ys) (hx : OwnT B2 w u xs) (hl : ys.length + xs.length ≤ 1000000) (hB : B ≤ w.heap.size) :
    ∃ a' c' w', (Builtin.append_ #[25, 25] ty #[v, u]).run Tryz.prog w = .ok (.slice a' (ys.length + xs.length) c') w' ∧ OwnT B w' (.slice a' (ys.length + xs.length) c') (ys ++ xs) ∧ w.grownBy w' v.ownBlock := by
  obtain ⟨i, hi, hz, hz1, hz2⟩ := info_parts infoTerm
  rcases hx.2 with ⟨rfl, h0⟩ | ⟨g, cap, cur, rfl, _, hg, h1, h2, _⟩
  · have hx0 : xs = [] := List.eq_nil_of_length_eq_zero h0
    subst hx0
    have hr := run_append_owned_none (P := Tryz.prog) (w := w) B 25 ty 55 i 2 Tryz.underlying25 hi v ys.length (linkVs ys) hown
    obtain ⟨a', c', e, _⟩ := hown.shape
    refine ⟨a', c', w, ?_, ?_, World.grownBy.refl _ _⟩
    · rw [hr, e]
      rfl
    · rw [List.append_nil]
      rw [e] at hown
      exact hown
  · obtain ⟨v', w', hr, h4, h3, _⟩ := run_append_own (P := Tryz.prog) w B 25 ty 55 i (.agg #[.int .i64 0, .int .i64 0]) 2 16 Tryz.underlying25 hi hz hz1 hz2 rfl (by decide) v ys.length (linkVs ys) hown ⟨g, 0, none⟩ xs.length cap (linkVs xs) (linkVs_len xs) (fun j u hj => by
      have hlt : j < xs.length * 2 := by
        rw [← linkVs_len]
        exact (List.getElem?_eq_some_iff.1 hj).1
      have := World.ownsRow.cellAt hx j hlt
      rw [add_none, Nat.zero_add, this, hj]) linkVs_one (by unfold maxLen; omega) (by omega) hB
    rw [← linkVs_append] at h4
    have h2' : OwnT B w' v' (ys ++ xs) := by
      unfold OwnT
      rw [List.length_append]
      exact h4
    obtain ⟨a', c', e, _⟩ := h2'.shape
    rw [List.length_append] at e
    subst e
    exact ⟨a', c', w', hr, h2', h3⟩
theorem wpList_appO (hgd : o.guard = none) (s x : Operand) (ho : o.op = .call { callee := .builtin .append, args := #[s, x], argTypes := #[25, 25] })
    (B B2 : Nat) (v u : Value) (ys xs : List (Int × Int)) (hown : OwnT B w v ys) (hx : OwnT B2 w u xs) (n m : Nat) (hn : n = ys.length) (hm : m = xs.length) (hs' : a.eval s = v) (hxe : a.eval x = u) (hl : n + m ≤ 1000000) (hB : B ≤ w.heap.size)
    (hK : ∀ a' c' w', OwnT B w' (.slice a' (n + m) c') (ys ++ xs) → w.grownBy w' v.ownBlock → wpList Tryz.prog ops Q rest (a.put o.dst (.slice a' (n + m) c')) w') :
    wpList Tryz.prog ops Q (o :: rest) a w := by
  subst hn hm
  refine wpList_plain hgd fun K hK' => ?_
  obtain ⟨a', c', w', hr, h2, h3⟩ := run_appO o.type B B2 v u ys xs hown hx hl hB
  unfold Oper.wp execOp
  simp only [ho, resolve, invoke, builtin, Sem.run_bind, Sem.run_pure, Result.andThen_ok, List.map_toArray, List.map_cons, List.map_nil, hs', hxe, hr]
  exact hK' _ _ (hK a' c' w' h2 h3)
end
theorem own_low {B : Nat} {w : World} {v : Value} {xs : List (Int × Int)} (h : OwnT B w v xs) {k : Nat} (e : v.ownBlock = some k) : B ≤ k := by
  rcases h.2 with ⟨rfl, _⟩ | ⟨g, cap, cur, rfl, hB, _⟩
  · simp [Value.ownBlock] at e
  · simp [Value.ownBlock] at e
    omega
theorem OwnT.base {B B2 : Nat} {w : World} {v : Value} {xs : List (Int × Int)} (h : OwnT B w v xs) (hB : B2 ≤ B) : OwnT B2 w v xs := by
  refine ⟨h.1, ?_⟩
  rcases h.2 with h | ⟨g, cap, cur, e, h1, h2⟩
  · exact .inl h
  · exact .inr ⟨g, cap, cur, e, by omega, h2⟩
theorem flat_len_le : ∀ (xss : List (List (Int × Int))) (i : Nat), (xss.take i).flatten.length ≤ xss.flatten.length
  | [], i => by simp
  | x :: r, 0 => by simp
  | x :: r, i + 1 => by
    have := flat_len_le r i
    simp at this ⊢
    omega
theorem flat_step {xss : List (List (Int × Int))} {i : Nat} (hi : i < xss.length) : (xss.take (i + 1)).flatten = (xss.take i).flatten ++ xss.getD i [] := by
  rw [List.take_succ_eq_append_getElem hi, List.flatten_append, List.getD_eq_getElem?_getD, List.getElem?_eq_getElem hi]
  simp
set_option maxHeartbeats 1000000 in
theorem operR_any (op : Int) (B b k c : Nat) (vs : Nat → Value) (xss : List (List (Int × Int))) (w : World) (hk : xss.length = k) (hb : b < w.heap.size) (hc : ∀ i, i < k → w.cell? ⟨b, i, none⟩ = some (vs i)) (hO : ∀ i, i < k → OwnT B w (vs i) (xss.getD i [])) (hs : xss.flatten.length ≤ 100000) (hk9 : k ≤ 9) :
    Calls Tryz.prog 78 #[.int .i64 op, .slice (some ⟨b, 0, none⟩) k c] w fun e w' => ∃ a c', e = .returned (.slice a (xss.flatten.length + 1) c') ∧ OwnT w.heap.size w' (.slice a (xss.flatten.length + 1) c') ((op, 0) :: xss.flatten) ∧ Below w.heap.size w w' := by
  have HC := Lib.hid hc
  have HO := Lib.hid hO
  have HS := Lib.hid hs
  clear hc hO hs
  go_enter Tryz.func78, Tryz.ntmps78
  go_wp2_with fail
  go_loopw [5, 6] (fun to ti wr => ∃ (i n : Nat) (a : Option Addr) (c' : Nat), to = .slice a n c' ∧ ti = .int .i64 i ∧ i ≤ k ∧ n = (xss.take i).flatten.length + 1 ∧ OwnT w.heap.size wr (.slice a n c') ((op, 0) :: (xss.take i).flatten) ∧ Below w.heap.size w wr) (fun _ ti _ => k - (intOf ti).toNat)
  case atStart => exact ⟨0, 1, _, _, rfl, rfl, Nat.zero_le _, rfl, OwnT.lit w _ [(op, 0)] #[.int .i64 op, .int .i64 0] 1 rfl rfl (Nat.le_refl _) (by simp [maxLen]), by first | exact below_alloc6 _ _ | exact belDraws (below_alloc6 _ _) _⟩
  case round =>
    obtain ⟨i, n, a, c', rfl, rfl, hi, hn, hown, hbr⟩ := hrel
    by_cases hlt : i < k
    · have hcell := (hbr.cell (p := ⟨b, i, none⟩) hb).trans (HC.out i hlt)
      have hop := (HO.out i hlt).far hbr
      have hfl := flat_step (xss := xss) (i := i) (by omega)
      have hle := flat_len_le xss (i + 1)
      have HFL := Lib.hid hfl
      have HSZ : Hid ((xss.take (i + 1)).flatten.length = (xss.take i).flatten.length + (xss.getD i []).length) := Lib.hid (by rw [hfl, List.length_append])
      have HLE : Hid ((xss.take (i + 1)).flatten.length ≤ 100000) := Lib.hid (by have := HS.out; omega)
      obtain ⟨a1, c1, e1, _⟩ := hop.shape
      obtain ⟨m, hm⟩ : ∃ m, m = (xss.getD i []).length := ⟨_, rfl⟩
      rw [← hm] at e1
      rw [e1] at hcell hop
      have HOp := Lib.hid hop
      have HOwn := Lib.hid hown
      have HM := Lib.hid hm
      have HN := Lib.hid hn
      have HB := Lib.hid hbr
      clear hop hown hfl hle hm hn e1
      have q0 : (0 : Int) ≤ (i : Int) := by omega
      have q1 : (i : Int) < (k : Int) := by omega
      go_wp2_with (at_builtin; (refine wpList_appO rfl (.tmp 16) (.tmp 20) rfl w.heap.size B _ _ _ _ HOwn.out HOp.out n m (by have := HN.out; rw [List.length_cons]; omega) HM.out rfl rfl (by have := HN.out; have := HM.out; have := HSZ.out; have := HLE.out; omega) HB.out.size ?_); intro a2 c2 w2 hown2 hg2)
      go_roundw
      case rel =>
        refine ⟨i + 1, n + m, a2, c2, rfl, by go_num, hlt, by have := HN.out; have := HM.out; have := HSZ.out; omega, ?_, HB.out.grown hg2 HB.out.size (fun kk ee => own_low HOwn.out ee)⟩
        rw [HFL.out]
        exact hown2
      case measure => simp [intOf]; omega
    · obtain rfl : i = k := by omega
      rw [← hk, List.take_length] at hn hown
      subst hn
      go_wp2
      go_ret
      exact ⟨a, c', rfl, hown, hbr⟩
end Go.Proofs.YtdbahiepihkagaaGreatDoor
namespace Go.Proofs.YtdbahiepihkagaaGreatDoor
set_option maxRecDepth 100000
open Go.RowKit

/-- the token at a place; behind the last one an empty one -/
def nowT (tx : Bytes) (ts : List Tok) (i : Nat) : Tok := if i < ts.length then tkA ts i else ⟨0, tx.length, tx.length, 0⟩
def wordT (tx : Bytes) (ts : List Tok) (i : Nat) : Bytes := (tx.drop (nowT tx ts i).at_).take ((nowT tx ts i).end_ - (nowT tx ts i).at_)
/-- what holds of the tokens of a text -/
structure Scd (tx : Bytes) (ts : List Tok) : Prop where
  ends : ∀ k, k < ts.length → (tkA ts k).at_ ≤ (tkA ts k).end_ ∧ (tkA ts k).end_ ≤ tx.length
  few : ts.length ≤ 4096
  short : tx.length ≤ 16384
  nums : ∀ k, k < ts.length → (tkA ts k).num ≤ 1073741824
/-- a cursor at the head of a block: the text, the tokens from the i-th one on -/
structure CAt (pb : Nat) (tx : Bytes) (ta : Option Addr) (ts : List Tok) (w : World) (i : Nat) : Prop where
  lt : pb < w.heap.size
  c0 : w.cell? ⟨pb, 0, none⟩ = some (.string (mkS tx))
  c1 : ∃ a c, w.cell? ⟨pb, 1, none⟩ = some (.slice a (ts.length - i) c) ∧ ts.length - i ≤ c ∧ (i < ts.length → ∃ b, ta = some ⟨b, 0, none⟩ ∧ a = some ⟨b, i * 4, none⟩)
  f1 : w.frozen? ⟨pb, 1, none⟩ = false
  toks : TokAt w ta ts
  low : i ≤ ts.length
theorem CAt.far {pb : Nat} {tx : Bytes} {ta : Option Addr} {ts : List Tok} {w w' : World} {i : Nat} (h : CAt pb tx ta ts w i) (hb : Below w.heap.size w w') : CAt pb tx ta ts w' i := by
  obtain ⟨a, c, e1, e2, e3⟩ := h.c1
  exact ⟨Nat.lt_of_lt_of_le h.lt hb.size, (hb.cell (p := ⟨_, 0, none⟩) h.lt).trans h.c0, ⟨a, c, (hb.cell (p := ⟨_, 1, none⟩) h.lt).trans e1, e2, e3⟩, (hb.frozen (p := ⟨_, 1, none⟩) h.lt).trans h.f1, h.toks.below hb rfl, h.low⟩
def tokA6 (t : Tok) : Value := .agg #[.int .i64 (t.kind : Int), .int .i64 (t.at_ : Int), .int .i64 (t.end_ : Int), .int .i64 (t.num : Int)]
theorem now_in {tx : Bytes} {ts : List Tok} (hS : Scd tx ts) (i : Nat) : (nowT tx ts i).at_ ≤ (nowT tx ts i).end_ ∧ (nowT tx ts i).end_ ≤ tx.length := by
  unfold nowT
  split
  · rename_i h
    exact hS.ends i h
  · exact ⟨Nat.le_refl _, Nat.le_refl _⟩
theorem four_cells {W : World} {b : Nat} {u0 u1 u2 u3 : Value} (h0 : W.cell? ⟨b, 0, none⟩ = some u0) (h1 : W.cell? ⟨b, 1, none⟩ = some u1) (h2 : W.cell? ⟨b, 2, none⟩ = some u2) (h3 : W.cell? ⟨b, 3, none⟩ = some u3) (v0 v1 v2 v3 : Value) :
    ((((W.setCell ⟨b, 0, none⟩ v0).setCell ⟨b, 1, none⟩ v1).setCell ⟨b, 2, none⟩ v2).setCell ⟨b, 3, none⟩ v3).cell? ⟨b, 0, none⟩ = some v0 ∧
    ((((W.setCell ⟨b, 0, none⟩ v0).setCell ⟨b, 1, none⟩ v1).setCell ⟨b, 2, none⟩ v2).setCell ⟨b, 3, none⟩ v3).cell? ⟨b, 1, none⟩ = some v1 ∧
    ((((W.setCell ⟨b, 0, none⟩ v0).setCell ⟨b, 1, none⟩ v1).setCell ⟨b, 2, none⟩ v2).setCell ⟨b, 3, none⟩ v3).cell? ⟨b, 2, none⟩ = some v2 ∧
    ((((W.setCell ⟨b, 0, none⟩ v0).setCell ⟨b, 1, none⟩ v1).setCell ⟨b, 2, none⟩ v2).setCell ⟨b, 3, none⟩ v3).cell? ⟨b, 3, none⟩ = some v3 := by
  have so : ∀ (W : World) (i j : Nat) (v : Value), i ≠ j → (W.setCell ⟨b, i, none⟩ v).cell? ⟨b, j, none⟩ = W.cell? ⟨b, j, none⟩ := fun W i j v h => set_other (by simp <;> omega)
  refine ⟨?_, ?_, ?_, ?_⟩
  · rw [so _ 3 0 _ (by decide), so _ 2 0 _ (by decide), so _ 1 0 _ (by decide)]
    exact set_same h0
  · rw [so _ 3 1 _ (by decide), so _ 2 1 _ (by decide)]
    exact set_same ((so _ 0 1 _ (by decide)).trans h1)
  · rw [so _ 3 2 _ (by decide)]
    exact set_same ((so _ 1 2 _ (by decide)).trans ((so _ 0 2 _ (by decide)).trans h2))
  · exact set_same ((so _ 2 3 _ (by decide)).trans ((so _ 1 3 _ (by decide)).trans ((so _ 0 3 _ (by decide)).trans h3)))
section
variable (pb : Nat) (tx : Bytes) (ta : Option Addr) (ts : List Tok) (hS : Scd tx ts) (i : Nat) (w : World) (h : CAt pb tx ta ts w i)
include hS h
set_option maxHeartbeats 1000000 in
theorem cnext_any :
    Calls Tryz.prog 61 #[.pointer (some ⟨pb, 0, none⟩)] w fun e w' => e = .returned (tokA6 (nowT tx ts i)) ∧ Below w.heap.size w w' := by
  have hc0 := h.c0
  obtain ⟨a, c, hc1, hcc, hca⟩ := h.c1
  have hlt := h.lt
  have HB := Lib.hid (below_alloc6 w (.cells #[.int .i64 0, .int .i64 0, .int .i64 0, .int .i64 0] 51))
  have hl := h.low
  have hsz := mkS_size tx
  by_cases hi : i < ts.length
  case neg =>
    have hv : nowT tx ts i = ⟨0, tx.length, tx.length, 0⟩ := by unfold nowT; rw [if_neg hi]
    have hn : ts.length - i = 0 := by omega
    rw [hn] at hc1
    rw [hv]
    unfold tokA6
    dsimp only
    rw [← hsz]
    have hlen : (mkS tx).size ≤ 100000 := by rw [hsz]; have := hS.short; omega
    clear h hS hcc hca hv hn hsz
    generalize mkS tx = X at *
    have hn1 : pb ≠ w.heap.size := by omega
    go_enter Tryz.func61, Tryz.ntmps61
    go_wp2
    go_region
    go_wp2
    refine bodyPost_ret (v := .agg #[.int .i64 0, .int .i64 (X.size : Int), .int .i64 (X.size : Int), .int .i64 0]) (by simp [results, Tryz.results61, go_sem]) rfl ⟨rfl, (below_alloc6 w _).drew⟩
  obtain ⟨b, hb, hbl, hrow⟩ := h.toks.row (by omega)
  obtain ⟨k0, k1, k2, k3⟩ := hrow i hi
  obtain ⟨b', hb', ha⟩ := hca hi
  obtain rfl : b' = b := by rw [hb] at hb'; injection hb' with e; injection e with e; exact e.symm
  have hv : nowT tx ts i = tkA ts i := by unfold nowT; rw [if_pos hi]
  rw [hv]
  unfold tokA6
  subst ha
  obtain ⟨m, hm⟩ : ∃ m, m = ts.length - i := ⟨_, rfl⟩
  rw [← hm] at hc1
  have hm1 : ¬ ((m : Int) = 0) := by omega
  have hm2 : (0 : Int) < (m : Int) := by omega
  have hm3 : ((m : Int) == 0) = false := by simp; omega
  clear h hS hcc hca hv hb hb' hc0 hm hl hi hrow
  generalize (tkA ts i).kind = z0 at *
  generalize (tkA ts i).at_ = z1 at *
  generalize (tkA ts i).end_ = z2 at *
  generalize (tkA ts i).num = z3 at *
  generalize i * 4 = o at *
  have hn1 : pb ≠ w.heap.size := by omega
  have hn2 : b' ≠ w.heap.size := by omega
  go_enter Tryz.func61, Tryz.ntmps61
  go_wp2
  refine bodyPost_ret (v := .agg #[.int .i64 (z0 : Int), .int .i64 (z1 : Int), .int .i64 (z2 : Int), .int .i64 (z3 : Int)]) (by simp [results, Tryz.results61, go_sem]) rfl ⟨rfl, below_alloc6 w _⟩
set_option maxHeartbeats 1000000 in
theorem cword_any :
    Calls Tryz.prog 64 #[.pointer (some ⟨pb, 0, none⟩)] w fun e w' => e = .returned (.string (mkS (wordT tx ts i))) ∧ Below w.heap.size w w' := by
  have HN := Lib.hid (cnext_any pb tx ta ts hS i w h)
  have HC := Lib.hid (fun W (hb : Below w.heap.size w W) => (h.far hb).c0)
  have hlt := h.lt
  obtain ⟨e1, e2⟩ := now_in hS i
  have hpart := mkS_part tx (nowT tx ts i).at_ (nowT tx ts i).end_
  change _ = mkS (wordT tx ts i) at hpart
  have hsz := mkS_size tx
  unfold tokA6 at HN
  clear h hS
  generalize (nowT tx ts i).kind = z0 at *
  generalize (nowT tx ts i).at_ = A at *
  generalize (nowT tx ts i).end_ = E at *
  generalize (nowT tx ts i).num = z3 at *
  generalize mkS tx = X at *
  generalize mkS (wordT tx ts i) = Y at *
  have q3 : (A : Int) ≤ (E : Int) := by omega
  have q4 : (E : Int) ≤ (X.size : Int) := by omega
  have q5 : (0 : Int) ≤ (A : Int) := by omega
  clear hsz e1 e2
  go_enter Tryz.func64, Tryz.ntmps64
  go_wp2_with (go_at_call 61; refine HN.out.mono ?_; rintro e w1 ⟨rfl, hb1⟩; have k0 := HC.out _ hb1; have hl1 := hb1.size; have hn1 : pb ≠ w1.heap.size := by omega)
  have b0 : (w1.alloc (.cells #[.int .i64 (z0 : Int), .int .i64 (A : Int), .int .i64 (E : Int), .int .i64 (z3 : Int)] 51)).cell? ⟨pb, 0, none⟩ = some (.string X) := ((below_alloc6 w1 _).cell (p := ⟨pb, 0, none⟩) (by show pb < w1.heap.size; omega)).trans k0
  have b1 : (w1.alloc (.cells #[.int .i64 (z0 : Int), .int .i64 (A : Int), .int .i64 (E : Int), .int .i64 (z3 : Int)] 51)).cell? ⟨w1.heap.size, 1, none⟩ = some (.int .i64 (A : Int)) := World.cell?_alloc_new w1 _ _ 1
  have b2 : (w1.alloc (.cells #[.int .i64 (z0 : Int), .int .i64 (A : Int), .int .i64 (E : Int), .int .i64 (z3 : Int)] 51)).cell? ⟨w1.heap.size, 2, none⟩ = some (.int .i64 (E : Int)) := World.cell?_alloc_new w1 _ _ 2
  go_quiet (fail)
  go_wp2
  go_ret
  exact ⟨by rw [← hpart]; rfl, by first | exact belDraws (hb1.trans ((below_alloc6 w1 _).mono hl1)) _ | exact hb1.trans ((below_alloc6 w1 _).mono hl1)⟩
omit hS h in
set_option maxHeartbeats 1000000 in
theorem cfailAt_any (p e0 : Int) :
    Calls Tryz.prog 128 #[.pointer (some ⟨pb, 0, none⟩), .int .i64 p, .int .i64 e0] w fun e w' => e = .panicked [{ v := .iface 101 (.agg #[.int .i64 p, .int .i64 e0]), recovered := false }] ∧ w' = w := by
  go_enter Tryz.func128, Tryz.ntmps128
  go_wp2
  exact ⟨rfl, rfl, rfl⟩
set_option maxHeartbeats 1000000 in
theorem cfail_any (e0 : Nat) :
    Calls Tryz.prog 62 #[.pointer (some ⟨pb, 0, none⟩), .int .i64 (e0 : Int)] w fun e w' => e = .panicked [{ v := .iface 101 (.agg #[.int .i64 ((nowT tx ts i).at_ : Int), .int .i64 (e0 : Int)]), recovered := false }] ∧ Below w.heap.size w w' := by
  have HN := Lib.hid (cnext_any pb tx ta ts hS i w h)
  have HF := Lib.hid (fun (p e0 : Int) W => cfailAt_any pb W p e0)
  unfold tokA6 at HN
  have hfd : ∀ (a b c d : Value) (W : World), (Instr.field 51 (.agg #[a, b, c, d]) 1).run Tryz.prog W = .ok b W := fun _ _ _ _ _ => by kernel_rfl
  clear h hS
  generalize (nowT tx ts i).kind = z0 at *
  generalize (nowT tx ts i).at_ = A at *
  generalize (nowT tx ts i).end_ = E at *
  generalize (nowT tx ts i).num = z3 at *
  go_enter Tryz.func62, Tryz.ntmps62
  go_wp2_with (first | (go_at_call 61; refine HN.out.mono ?_; rintro e w1 ⟨rfl, hb1⟩) | (go_at_call 128; refine (HF.out _ _ _).mono ?_; rintro e w2 ⟨rfl, rfl⟩))
  exact ⟨rfl, rfl, hb1⟩
/-- what a step over a token does to the world -/
structure Skipped (pb : Nat) (ta : Option Addr) (n i : Nat) (w w' : World) : Prop where
  grow : w.grownBy w' (some pb)
  c1 : ∃ a' c', w'.cell? ⟨pb, 1, none⟩ = some (.slice a' (n - (i + 1)) c') ∧ n - (i + 1) ≤ c' ∧ (i + 1 < n → ∃ b, ta = some ⟨b, 0, none⟩ ∧ a' = some ⟨b, (i + 1) * 4, none⟩)
  cj : ∀ j, j ≠ 1 → w'.cell? ⟨pb, j, none⟩ = w.cell? ⟨pb, j, none⟩
  fj : ∀ j, w'.frozen? ⟨pb, j, none⟩ = w.frozen? ⟨pb, j, none⟩
omit hS h in
theorem grown_setNew {w W : World} {r : Option Nat} (h : w.grownBy W r) {b j : Nat} (hb : w.heap.size ≤ b) (v : Value) : w.grownBy (W.setCell ⟨b, j, none⟩ v) r :=
  ⟨h.os, h.tape, h.output, by simpa using h.size, fun k hk hne => (Below.heap_setCell _ _ _ _ (show k ≠ b by omega)).trans (h.block k hk hne)⟩
omit hS h in
theorem Skipped.setNew {w w' : World} {n : Nat} (h : Skipped pb ta n i w w') (hlt : pb < w.heap.size) {b : Nat} (hb : w.heap.size ≤ b) (j : Nat) (v : Value) : Skipped pb ta n i w (w'.setCell ⟨b, j, none⟩ v) := by
  have so : ∀ k, (w'.setCell ⟨b, j, none⟩ v).cell? ⟨pb, k, none⟩ = w'.cell? ⟨pb, k, none⟩ := fun k => set_other (by simp <;> omega)
  obtain ⟨a', c', e1, e2, e3⟩ := h.c1
  exact ⟨grown_setNew h.grow hb v, ⟨a', c', (so 1).trans e1, e2, e3⟩, fun k hk => (so k).trans (h.cj k hk), fun k => by rw [World.frozen?_setCell]; exact h.fj k⟩
omit hS h in
theorem Skipped.after {n : Nat} {w1 w' : World} (hlt : pb < w.heap.size) (hb : Below w.heap.size w w1) (h : Skipped pb ta n i w1 w') : Skipped pb ta n i w w' :=
  ⟨⟨h.grow.os.trans hb.os, h.grow.tape.trans hb.tape, h.grow.output.trans hb.output, Nat.le_trans hb.size h.grow.size, fun k hk hne => (h.grow.block k (Nat.lt_of_lt_of_le hk hb.size) hne).trans (hb.block k hk)⟩, h.c1, fun j hj => (h.cj j hj).trans (hb.cell (p := ⟨pb, j, none⟩) hlt), fun j => (h.fj j).trans (hb.frozen (p := ⟨pb, j, none⟩) hlt)⟩
omit hS h in
theorem skipped_set {n : Nat} (a0 : Option Addr) (n0 c0 : Nat) (h1 : w.cell? ⟨pb, 1, none⟩ = some (.slice a0 n0 c0)) (a' : Option Addr) (c' : Nat) (h2 : n - (i + 1) ≤ c') (h3 : i + 1 < n → ∃ b, ta = some ⟨b, 0, none⟩ ∧ a' = some ⟨b, (i + 1) * 4, none⟩) : Skipped pb ta n i w (w.setCell ⟨pb, 1, none⟩ (.slice a' (n - (i + 1)) c')) :=
  ⟨grown_set6 _ _ _ _, ⟨a', c', set_same h1, h2, h3⟩, fun j hj => set_other (by simp <;> omega), fun j => by rw [World.frozen?_setCell]⟩
set_option maxHeartbeats 1000000 in
theorem cskip_any (hi : i < ts.length) :
    Calls Tryz.prog 132 #[.pointer (some ⟨pb, 0, none⟩)] w fun e w' => e = .returned (tokA6 (tkA ts i)) ∧ Skipped pb ta ts.length i w w' := by
  have HN := Lib.hid (fun W (hb : Below w.heap.size w W) => cnext_any pb tx ta ts hS i W (h.far hb))
  have hv : nowT tx ts i = tkA ts i := by unfold nowT; rw [if_pos hi]
  rw [hv] at HN
  unfold tokA6 at HN ⊢
  obtain ⟨a, c, e1, e2, e3⟩ := h.c1
  obtain ⟨b, hta, ha⟩ := e3 hi
  have hlt := h.lt
  have hf := h.f1
  have HC : Hid (∀ W, Below w.heap.size w W → W.cell? ⟨pb, 1, none⟩ = some (.slice a (ts.length - i) c) ∧ W.frozen? ⟨pb, 1, none⟩ = false) := Lib.hid (fun W hb => ⟨(hb.cell (p := ⟨_, 1, none⟩) hlt).trans e1, (hb.frozen (p := ⟨_, 1, none⟩) hlt).trans hf⟩)
  have HS : Hid (∀ W, Below w.heap.size w W → ∀ (a' : Option Addr) (c' : Nat), ts.length - i - 1 ≤ c' → (i + 1 < ts.length → a' = some ⟨b, i * 4 + 4, none⟩) → ∀ v0 v1 v2 v3, Skipped pb ta ts.length i w (((((W.setCell ⟨pb, 1, none⟩ (.slice a' (ts.length - i - 1) c')).setCell ⟨w.heap.size, 0, none⟩ v0).setCell ⟨w.heap.size, 1, none⟩ v1).setCell ⟨w.heap.size, 2, none⟩ v2).setCell ⟨w.heap.size, 3, none⟩ v3)) := Lib.hid (fun W hb a' c' h1 h2 v0 v1 v2 v3 => by
    have k := skipped_set pb ta i W (n := ts.length) a _ c ((hb.cell (p := ⟨_, 1, none⟩) hlt).trans e1) a' c' (by omega) (fun k => ⟨b, hta, by rw [h2 k, Nat.succ_mul]⟩)
    rw [show ts.length - (i + 1) = ts.length - i - 1 by omega] at k
    exact ((((k.after _ _ _ _ hlt hb).setNew _ _ _ hlt (Nat.le_refl _) 0 v0).setNew _ _ _ hlt (Nat.le_refl _) 1 v1).setNew _ _ _ hlt (Nat.le_refl _) 2 v2).setNew _ _ _ hlt (Nat.le_refl _) 3 v3)
  subst ha
  clear h hS hf e3 hta hv
  obtain ⟨n, hn⟩ : ∃ n, n = ts.length - i := ⟨_, rfl⟩
  rw [← hn] at HC HS e1 e2
  have HNn : Hid (i + 1 < ts.length → 1 < n) := Lib.hid (by omega)
  have hn1 : 1 ≤ n := by omega
  have q1 : ¬ ((n : Int) < 1) := by omega
  have q2 : (0 : Int) < (n : Int) := by omega
  have hne : pb ≠ w.heap.size := by omega
  clear hn hi e1
  generalize (tkA ts i).kind = z0 at *
  generalize (tkA ts i).at_ = z1 at *
  generalize (tkA ts i).end_ = z2 at *
  generalize (tkA ts i).num = z3 at *
  generalize i * 4 = o at *
  by_cases hc1 : c = 1
  · subst hc1
    obtain rfl : n = 1 := by omega
    go_enter Tryz.func132, Tryz.ntmps132
    go_wp2_with (go_at_call 61; refine (HN.out _ (below_alloc6 w _)).mono ?_; rintro e w1 ⟨rfl, hb1⟩; have hb2 := (below_alloc6 w _).trans (hb1.mono (by simp)); have hs1 := hb1.size; simp at hs1; have n2 : pb ≠ w1.heap.size := (by omega); have n3 : w.heap.size ≠ w1.heap.size := (by omega); have n4 : w.heap.size ≠ pb := (by omega); have hB3 := below_alloc6 w1 (.cells #[.int .i64 z0, .int .i64 z1, .int .i64 z2, .int .i64 z3] 51); have hb3 := hb2.trans (hB3.mono hb2.size); obtain ⟨k1, kf⟩ := HC.out _ hb3; have r0 := (hB3.cell (p := ⟨w.heap.size, 0, none⟩) (by show w.heap.size < _; omega)).trans ((hb1.cell (p := ⟨w.heap.size, 0, none⟩) (by simp)).trans (World.cell?_alloc_new w _ _ 0)); have f0 := (hB3.frozen (p := ⟨w.heap.size, 0, none⟩) (by show w.heap.size < _; omega)).trans ((hb1.frozen (p := ⟨w.heap.size, 0, none⟩) (by simp)).trans (World.frozen?_alloc_new w _ _ 0)); have t0 := World.cell?_alloc_new w1 #[.int .i64 z0, .int .i64 z1, .int .i64 z2, .int .i64 z3] 51 0; have r1 := (hB3.cell (p := ⟨w.heap.size, 1, none⟩) (by show w.heap.size < _; omega)).trans ((hb1.cell (p := ⟨w.heap.size, 1, none⟩) (by simp)).trans (World.cell?_alloc_new w _ _ 1)); have f1 := (hB3.frozen (p := ⟨w.heap.size, 1, none⟩) (by show w.heap.size < _; omega)).trans ((hb1.frozen (p := ⟨w.heap.size, 1, none⟩) (by simp)).trans (World.frozen?_alloc_new w _ _ 1)); have t1 := World.cell?_alloc_new w1 #[.int .i64 z0, .int .i64 z1, .int .i64 z2, .int .i64 z3] 51 1; have r2 := (hB3.cell (p := ⟨w.heap.size, 2, none⟩) (by show w.heap.size < _; omega)).trans ((hb1.cell (p := ⟨w.heap.size, 2, none⟩) (by simp)).trans (World.cell?_alloc_new w _ _ 2)); have f2 := (hB3.frozen (p := ⟨w.heap.size, 2, none⟩) (by show w.heap.size < _; omega)).trans ((hb1.frozen (p := ⟨w.heap.size, 2, none⟩) (by simp)).trans (World.frozen?_alloc_new w _ _ 2)); have t2 := World.cell?_alloc_new w1 #[.int .i64 z0, .int .i64 z1, .int .i64 z2, .int .i64 z3] 51 2; have r3 := (hB3.cell (p := ⟨w.heap.size, 3, none⟩) (by show w.heap.size < _; omega)).trans ((hb1.cell (p := ⟨w.heap.size, 3, none⟩) (by simp)).trans (World.cell?_alloc_new w _ _ 3)); have f3 := (hB3.frozen (p := ⟨w.heap.size, 3, none⟩) (by show w.heap.size < _; omega)).trans ((hb1.frozen (p := ⟨w.heap.size, 3, none⟩) (by simp)).trans (World.frozen?_alloc_new w _ _ 3)); have t3 := World.cell?_alloc_new w1 #[.int .i64 z0, .int .i64 z1, .int .i64 z2, .int .i64 z3] 51 3)
    have so : ∀ j, ((w1.alloc (.cells #[.int .i64 z0, .int .i64 z1, .int .i64 z2, .int .i64 z3] 51)).setCell ⟨pb, 1, none⟩ (.slice (some ⟨b, o, none⟩) 0 0)).cell? ⟨w.heap.size, j, none⟩ = (w1.alloc (.cells #[.int .i64 z0, .int .i64 z1, .int .i64 z2, .int .i64 z3] 51)).cell? ⟨w.heap.size, j, none⟩ := fun j => set_other (by simp <;> omega)
    obtain ⟨m0, m1, m2, m3⟩ := four_cells ((so 0).trans r0) ((so 1).trans r1) ((so 2).trans r2) ((so 3).trans r3) (.int .i64 z0) (.int .i64 z1) (.int .i64 z2) (.int .i64 z3)
    refine bodyPost_ret (v := .agg #[.int .i64 (z0 : Int), .int .i64 (z1 : Int), .int .i64 (z2 : Int), .int .i64 (z3 : Int)]) (by simp [results, Tryz.results132, go_sem, m0, m1, m2, m3]) rfl ⟨rfl, HS.out _ hb3 _ 0 (Nat.le_refl _) (fun k => absurd (HNn.out k) (by omega)) _ _ _ _⟩
  go_enter Tryz.func132, Tryz.ntmps132
  go_wp2_with (go_at_call 61; refine (HN.out _ (below_alloc6 w _)).mono ?_; rintro e w1 ⟨rfl, hb1⟩; have hb2 := (below_alloc6 w _).trans (hb1.mono (by simp)); have hs1 := hb1.size; simp at hs1; have n2 : pb ≠ w1.heap.size := (by omega); have n3 : w.heap.size ≠ w1.heap.size := (by omega); have n4 : w.heap.size ≠ pb := (by omega); have hB3 := below_alloc6 w1 (.cells #[.int .i64 z0, .int .i64 z1, .int .i64 z2, .int .i64 z3] 51); have hb3 := hb2.trans (hB3.mono hb2.size); obtain ⟨k1, kf⟩ := HC.out _ hb3; have r0 := (hB3.cell (p := ⟨w.heap.size, 0, none⟩) (by show w.heap.size < _; omega)).trans ((hb1.cell (p := ⟨w.heap.size, 0, none⟩) (by simp)).trans (World.cell?_alloc_new w _ _ 0)); have f0 := (hB3.frozen (p := ⟨w.heap.size, 0, none⟩) (by show w.heap.size < _; omega)).trans ((hb1.frozen (p := ⟨w.heap.size, 0, none⟩) (by simp)).trans (World.frozen?_alloc_new w _ _ 0)); have t0 := World.cell?_alloc_new w1 #[.int .i64 z0, .int .i64 z1, .int .i64 z2, .int .i64 z3] 51 0; have r1 := (hB3.cell (p := ⟨w.heap.size, 1, none⟩) (by show w.heap.size < _; omega)).trans ((hb1.cell (p := ⟨w.heap.size, 1, none⟩) (by simp)).trans (World.cell?_alloc_new w _ _ 1)); have f1 := (hB3.frozen (p := ⟨w.heap.size, 1, none⟩) (by show w.heap.size < _; omega)).trans ((hb1.frozen (p := ⟨w.heap.size, 1, none⟩) (by simp)).trans (World.frozen?_alloc_new w _ _ 1)); have t1 := World.cell?_alloc_new w1 #[.int .i64 z0, .int .i64 z1, .int .i64 z2, .int .i64 z3] 51 1; have r2 := (hB3.cell (p := ⟨w.heap.size, 2, none⟩) (by show w.heap.size < _; omega)).trans ((hb1.cell (p := ⟨w.heap.size, 2, none⟩) (by simp)).trans (World.cell?_alloc_new w _ _ 2)); have f2 := (hB3.frozen (p := ⟨w.heap.size, 2, none⟩) (by show w.heap.size < _; omega)).trans ((hb1.frozen (p := ⟨w.heap.size, 2, none⟩) (by simp)).trans (World.frozen?_alloc_new w _ _ 2)); have t2 := World.cell?_alloc_new w1 #[.int .i64 z0, .int .i64 z1, .int .i64 z2, .int .i64 z3] 51 2; have r3 := (hB3.cell (p := ⟨w.heap.size, 3, none⟩) (by show w.heap.size < _; omega)).trans ((hb1.cell (p := ⟨w.heap.size, 3, none⟩) (by simp)).trans (World.cell?_alloc_new w _ _ 3)); have f3 := (hB3.frozen (p := ⟨w.heap.size, 3, none⟩) (by show w.heap.size < _; omega)).trans ((hb1.frozen (p := ⟨w.heap.size, 3, none⟩) (by simp)).trans (World.frozen?_alloc_new w _ _ 3)); have t3 := World.cell?_alloc_new w1 #[.int .i64 z0, .int .i64 z1, .int .i64 z2, .int .i64 z3] 51 3)
  have so : ∀ j, ((w1.alloc (.cells #[.int .i64 z0, .int .i64 z1, .int .i64 z2, .int .i64 z3] 51)).setCell ⟨pb, 1, none⟩ (.slice (some ⟨b, o + 4, none⟩) (n - 1) (c - 1))).cell? ⟨w.heap.size, j, none⟩ = (w1.alloc (.cells #[.int .i64 z0, .int .i64 z1, .int .i64 z2, .int .i64 z3] 51)).cell? ⟨w.heap.size, j, none⟩ := fun j => set_other (by simp <;> omega)
  obtain ⟨m0, m1, m2, m3⟩ := four_cells ((so 0).trans r0) ((so 1).trans r1) ((so 2).trans r2) ((so 3).trans r3) (.int .i64 z0) (.int .i64 z1) (.int .i64 z2) (.int .i64 z3)
  refine bodyPost_ret (v := .agg #[.int .i64 (z0 : Int), .int .i64 (z1 : Int), .int .i64 (z2 : Int), .int .i64 (z3 : Int)]) (by simp [results, Tryz.results132, go_sem, m0, m1, m2, m3]) rfl ⟨rfl, HS.out _ hb3 _ (c - 1) (by omega) (fun _ => rfl) _ _ _ _⟩
set_option maxHeartbeats 1000000 in
theorem caccept_no (x : Bytes) (hx : wordT tx ts i ≠ x) :
    Calls Tryz.prog 133 #[.pointer (some ⟨pb, 0, none⟩), .string (mkS x)] w fun e w' => e = .returned (.bool false) ∧ Below w.heap.size w w' := by
  have HW := Lib.hid (cword_any pb tx ta ts hS i w h)
  have hb := mkS_not hx
  clear h hS hx
  generalize mkS (wordT tx ts i) = Y at *
  generalize mkS x = X at *
  go_enter Tryz.func133, Tryz.ntmps133
  go_wp2_with (go_at_call 64; refine HW.out.mono ?_; rintro e w1 ⟨rfl, hb1⟩)
  go_ret
  exact ⟨rfl, hb1⟩
omit hS h in
theorem wordT_in {x : Bytes} (h0 : x ≠ []) (hx : wordT tx ts i = x) : i < ts.length := by
  rcases Nat.lt_or_ge i ts.length with h | h
  · exact h
  · exfalso
    apply h0
    rw [← hx]
    unfold wordT nowT
    rw [if_neg (by omega)]
    simp
set_option maxHeartbeats 1000000 in
theorem caccept_yes (x : Bytes) (h0 : x ≠ []) (hx : wordT tx ts i = x) :
    Calls Tryz.prog 133 #[.pointer (some ⟨pb, 0, none⟩), .string (mkS x)] w fun e w' => e = .returned (.bool true) ∧ Skipped pb ta ts.length i w w' := by
  have HW := Lib.hid (cword_any pb tx ta ts hS i w h)
  have hlt := h.lt
  have HK := Lib.hid (fun W (hb : Below w.heap.size w W) => cskip_any pb tx ta ts hS i W (h.far hb) (wordT_in tx ts i h0 hx))
  have hb := mkS_same x
  subst hx
  clear h hS h0
  generalize mkS (wordT tx ts i) = Y at *
  go_enter Tryz.func133, Tryz.ntmps133
  go_wp2_with (first | (go_at_call 64; refine HW.out.mono ?_; rintro e w1 ⟨rfl, hb1⟩) | (go_at_call 132; refine (HK.out _ hb1).mono ?_; rintro e w2 ⟨rfl, h2⟩))
  go_ret
  exact ⟨rfl, h2.after _ _ _ _ hlt hb1⟩
set_option maxHeartbeats 1000000 in
theorem cexpect_yes (x : Bytes) (h0 : x ≠ []) (hx : wordT tx ts i = x) :
    Calls Tryz.prog 66 #[.pointer (some ⟨pb, 0, none⟩), .string (mkS x)] w fun e w' => e = .returned (.tuple #[]) ∧ Skipped pb ta ts.length i w w' := by
  have HA := Lib.hid (caccept_yes pb tx ta ts hS i w h x h0 hx)
  clear h hS hx h0
  generalize mkS x = X at *
  go_enter Tryz.func66, Tryz.ntmps66
  go_wp2_with (go_at_call 133; refine HA.out.mono ?_; rintro e w1 ⟨rfl, h1⟩)
  go_end0
  exact ⟨rfl, h1⟩
end
end Go.Proofs.YtdbahiepihkagaaGreatDoor
