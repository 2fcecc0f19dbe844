/- Append of a list of one's own, empty or not; what operation of the specification of layer 6 makes. -/
import Derived.Test.YtokmehjofboflaaGreatDoorExprNames
import Derived.Test.YtokmehjofboflaaGreatDoorExprPieces
import Derived.Test.YtokmehjofboflaaGreatDoorTermApp
import Derived.Laws.OwnMore
namespace Go.Proofs.YtokmehjofboflaaGreatDoor
set_option maxRecDepth 100000
open Go.RowKit

/-- the world ahead of the reader, the rows of names and of tokens, the text -/
structure Sur where
  W : World
  na : Option Addr
  nc : Nat
  ta : Option Addr
  tc : Nat
  tx : Bytes
  ns : List Bytes
  ts : List Tok
def Sur.env (U : Sur) : Env := envF U.tx U.ts U.ns
structure Sur.Ok (U : Sur) : Prop where
  names : NamesAt U.W U.na U.ns
  toks : TokAt U.W U.ta U.ts
  ends : ∀ k, k < U.ts.length → (tkA U.ts k).at_ ≤ (tkA U.ts k).end_ ∧ (tkA U.ts k).end_ ≤ U.tx.length
  good : goodF U.ns = true
  few : U.ts.length ≤ 4096
  short : U.tx.length ≤ 16384
  nums : ∀ k, k < U.ts.length → (tkA U.ts k).num ≤ 1073741824
/-- the reader's struct, behind the old world -/
structure PAt (U : Sur) (w : World) (s : St) : Prop where
  bel : Below U.W.heap.size U.W w
  lt : U.W.heap.size < w.heap.size
  c0 : w.cell? ⟨U.W.heap.size, 0, none⟩ = some (.string (mkS U.tx))
  c1 : w.cell? ⟨U.W.heap.size, 1, none⟩ = some (.slice U.na U.ns.length U.nc)
  c2 : w.cell? ⟨U.W.heap.size, 2, none⟩ = some (.slice U.ta U.ts.length U.tc)
  c3 : w.cell? ⟨U.W.heap.size, 3, none⟩ = some (.int .i64 (s.i : Int))
  c4 : w.cell? ⟨U.W.heap.size, 4, none⟩ = some (.int .i64 (s.err : Int))
  c5 : w.cell? ⟨U.W.heap.size, 5, none⟩ = some (.int .i64 (s.place : Int))
  f3 : w.frozen? ⟨U.W.heap.size, 3, none⟩ = false
  f4 : w.frozen? ⟨U.W.heap.size, 4, none⟩ = false
  f5 : w.frozen? ⟨U.W.heap.size, 5, none⟩ = false
  low : s.i ≤ U.ts.length
theorem PAt.drew {U : Sur} {w : World} {s : St} (h : PAt U w s) (n : Nat) : PAt U (w.drewN n) s :=
  ⟨belDraws h.bel n, h.lt, h.c0, h.c1, h.c2, h.c3, h.c4, h.c5, h.f3, h.f4, h.f5, h.low⟩
theorem mkS_part (l : Bytes) (a e : Nat) : (mkS l).extract a e = mkS ((l.drop a).take (e - a)) := by
  have h : ((mkS l).extract a e).data.toList = (l.drop a).take (e - a) := by
    simp [mkS, ByteArray.data_extract]
  rw [← mkS_data ((mkS l).extract a e), h]
theorem PAt.far {U : Sur} {w w' : World} {s : St} (h : PAt U w s) (hb : Below w.heap.size w w') : PAt U w' s := by
  have hl := h.lt
  refine ⟨h.bel.trans (hb.mono (Nat.le_of_lt hl)), Nat.lt_of_lt_of_le hl hb.size, (hb.cell (p := ⟨U.W.heap.size, 0, none⟩) hl).trans h.c0, (hb.cell (p := ⟨U.W.heap.size, 1, none⟩) hl).trans h.c1, (hb.cell (p := ⟨U.W.heap.size, 2, none⟩) hl).trans h.c2, (hb.cell (p := ⟨U.W.heap.size, 3, none⟩) hl).trans h.c3, (hb.cell (p := ⟨U.W.heap.size, 4, none⟩) hl).trans h.c4, (hb.cell (p := ⟨U.W.heap.size, 5, none⟩) hl).trans h.c5, (hb.frozen (p := ⟨U.W.heap.size, 3, none⟩) hl).trans h.f3, (hb.frozen (p := ⟨U.W.heap.size, 4, none⟩) hl).trans h.f4, (hb.frozen (p := ⟨U.W.heap.size, 5, none⟩) hl).trans h.f5, h.low⟩
theorem setCell_size (w : World) (a : Addr) (v : Value) : (w.setCell a v).heap.size = w.heap.size := by simp [World.setCell]
theorem PAt.set3 {U : Sur} {w : World} {s : St} (h : PAt U w s) (i : Nat) (hi : i ≤ U.ts.length) : PAt U (w.setCell ⟨U.W.heap.size, 3, none⟩ (.int .i64 (i : Int))) { s with i := i } := by
  refine ⟨h.bel.setCell (Nat.le_refl _) _, by rw [setCell_size]; exact h.lt, (set_other (by simp)).trans h.c0, (set_other (by simp)).trans h.c1, (set_other (by simp)).trans h.c2, set_same h.c3, (set_other (by simp)).trans h.c4, (set_other (by simp)).trans h.c5, ?_, ?_, ?_, hi⟩
  · rw [World.frozen?_setCell]; exact h.f3
  · rw [World.frozen?_setCell]; exact h.f4
  · rw [World.frozen?_setCell]; exact h.f5
theorem PAt.set4 {U : Sur} {w : World} {s : St} (h : PAt U w s) (e : Nat) : PAt U (w.setCell ⟨U.W.heap.size, 4, none⟩ (.int .i64 (e : Int))) { s with err := e } := by
  refine ⟨h.bel.setCell (Nat.le_refl _) _, by rw [setCell_size]; exact h.lt, (set_other (by simp)).trans h.c0, (set_other (by simp)).trans h.c1, (set_other (by simp)).trans h.c2, (set_other (by simp)).trans h.c3, set_same h.c4, (set_other (by simp)).trans h.c5, ?_, ?_, ?_, h.low⟩
  · rw [World.frozen?_setCell]; exact h.f3
  · rw [World.frozen?_setCell]; exact h.f4
  · rw [World.frozen?_setCell]; exact h.f5
theorem PAt.set5 {U : Sur} {w : World} {s : St} (h : PAt U w s) (e : Nat) : PAt U (w.setCell ⟨U.W.heap.size, 5, none⟩ (.int .i64 (e : Int))) { s with place := e } := by
  refine ⟨h.bel.setCell (Nat.le_refl _) _, by rw [setCell_size]; exact h.lt, (set_other (by simp)).trans h.c0, (set_other (by simp)).trans h.c1, (set_other (by simp)).trans h.c2, (set_other (by simp)).trans h.c3, (set_other (by simp)).trans h.c4, set_same h.c5, ?_, ?_, ?_, h.low⟩
  · rw [World.frozen?_setCell]; exact h.f3
  · rw [World.frozen?_setCell]; exact h.f4
  · rw [World.frozen?_setCell]; exact h.f5
/-- the token at the reader's place -/
theorem Sur.here {U : Sur} {i : Nat} (h : i < U.ts.length) : U.env.ts[i]? = some (ofTok U.tx (tkA U.ts i)) := env_at h
theorem PAt.tok {U : Sur} (hU : U.Ok) {w : World} {s : St} (h : PAt U w s) (hi : s.i < U.ts.length) : ∃ b, U.ta = some ⟨b, 0, none⟩ ∧ w.cell? ⟨b, s.i * 4, none⟩ = some (.int .i64 ((tkA U.ts s.i).kind : Int)) ∧ w.cell? ⟨b, s.i * 4 + 1, none⟩ = some (.int .i64 ((tkA U.ts s.i).at_ : Int)) ∧
    w.cell? ⟨b, s.i * 4 + 2, none⟩ = some (.int .i64 ((tkA U.ts s.i).end_ : Int)) ∧ w.cell? ⟨b, s.i * 4 + 3, none⟩ = some (.int .i64 ((tkA U.ts s.i).num : Int)) := by
  obtain ⟨b, hb, _, hc⟩ := (hU.toks.below h.bel rfl).row (by omega)
  exact ⟨b, hb, hc s.i hi⟩
set_option maxHeartbeats 1000000 in
theorem wordP_any (U : Sur) (hU : U.Ok) (s : St) (w : World) (h : PAt U w s) :
    Calls Tryz.prog 100 #[.pointer (some ⟨U.W.heap.size, 0, none⟩)] w fun e w' => e = .returned (.string (mkS (U.env.word s))) ∧ ∃ m, w' = w.drewN m := by
  have hc0 := h.c0
  have hc2 := h.c2
  have hc3 := h.c3
  have hc4 := h.c4
  have HW : Hid (U.env.word s = if s.err ≠ 0 then [] else ((U.env.ts[s.i]?).map (·.word)).getD []) := Lib.hid rfl
  have HT := Lib.hid (h.tok hU)
  have HE := Lib.hid (fun hi => (hU.ends s.i hi))
  have HH := Lib.hid (fun hi => U.here (i := s.i) hi)
  have hlow := h.low
  have hfew := hU.few
  have hsh := hU.short
  have HL := Lib.hid (mkS_size U.tx)
  clear h hU
  generalize U.W.heap.size = pb at *
  obtain ⟨i, er, pl⟩ := s
  dsimp only at *
  by_cases he : er = 0
  case neg =>
    have hv : U.env.word ⟨i, er, pl⟩ = [] := by rw [HW.out, if_pos he]
    rw [hv]
    have hd : ((er : Int) == 0) = false := by simp; omega
    clear hv HW
    go_enter Tryz.func100, Tryz.ntmps100
    go_wp2
    go_quiet (fail)
    go_wp2
    go_ret
    exact ⟨rfl, _, rfl⟩
  subst he
  have hd : (((0 : Nat) : Int) == 0) = true := rfl
  obtain ⟨m, hm⟩ : ∃ m, m = U.ts.length := ⟨_, rfl⟩
  have HM := Lib.hid hm
  rw [← hm] at hc2 hlow hfew
  by_cases hi : i < m
  case neg =>
    have hv : U.env.word ⟨i, 0, pl⟩ = [] := by
      rw [HW.out, if_neg (by simp)]
      have : U.env.ts[i]? = none := env_out (by rw [← HM.out]; omega)
      rw [this]
      rfl
    rw [hv]
    have hge : decide ((i : Int) ≥ (m : Int)) = true := by simp; omega
    clear hv HW hm
    go_enter Tryz.func100, Tryz.ntmps100
    go_wp2
    go_quiet (fail)
    go_wp2
    go_ret
    exact ⟨rfl, _, rfl⟩
  have hi2 : i < U.ts.length := by rw [← hm]; exact hi
  obtain ⟨b, hb, k0, k1, k2, k3⟩ := HT.out hi2
  obtain ⟨ha, hz⟩ := HE.out hi2
  have hv : U.env.word ⟨i, 0, pl⟩ = (U.tx.drop (tkA U.ts i).at_).take ((tkA U.ts i).end_ - (tkA U.ts i).at_) := by
    rw [HW.out, if_neg (by simp), HH.out hi2]
    rfl
  have hpart := mkS_part U.tx (tkA U.ts i).at_ (tkA U.ts i).end_
  rw [← hv] at hpart
  have hge : decide ((i : Int) ≥ (m : Int)) = false := by simp; omega
  have hsz : (mkS U.tx).size = U.tx.length := HL.out
  rw [hb] at hc2
  generalize (tkA U.ts i).at_ = A at *
  generalize (tkA U.ts i).end_ = E at *
  generalize mkS U.tx = X at *
  generalize mkS (U.env.word ⟨i, 0, pl⟩) = Y at *
  have q1 : (0 : Int) ≤ (i : Int) := by omega
  have q2 : (i : Int) < (m : Int) := by omega
  have q3 : (A : Int) ≤ (E : Int) := by omega
  have q4 : (E : Int) ≤ (X.size : Int) := by omega
  have q5 : (0 : Int) ≤ (A : Int) := by omega
  clear hv HW hm HT HE HH k0 k3 HL
  go_enter Tryz.func100, Tryz.ntmps100
  go_wp2
  go_quiet (fail)
  go_wp2
  go_quiet (fail)
  go_wp2
  go_ret
  exact ⟨by rw [← hpart]; rfl, _, World.drewN_drewN _ _ _⟩
set_option maxHeartbeats 1000000 in
theorem kindP_any (U : Sur) (hU : U.Ok) (s : St) (w : World) (h : PAt U w s) :
    Calls Tryz.prog 121 #[.pointer (some ⟨U.W.heap.size, 0, none⟩)] w fun e w' => e = .returned (.int .i64 (U.env.kind s : Int)) ∧ ∃ m, w' = w.drewN m := by
  have hc0 := h.c0
  have hc2 := h.c2
  have hc3 := h.c3
  have hc4 := h.c4
  have HW : Hid (U.env.kind s = if s.err ≠ 0 then 0 else ((U.env.ts[s.i]?).map (·.kind)).getD 0) := Lib.hid rfl
  have HT := Lib.hid (h.tok hU)
  have HE := Lib.hid (fun hi => (hU.ends s.i hi))
  have HH := Lib.hid (fun hi => U.here (i := s.i) hi)
  have hlow := h.low
  have hfew := hU.few
  have hsh := hU.short
  have HL := Lib.hid (mkS_size U.tx)
  clear h hU
  generalize U.W.heap.size = pb at *
  obtain ⟨i, er, pl⟩ := s
  dsimp only at *
  by_cases he : er = 0
  case neg =>
    have hv : U.env.kind ⟨i, er, pl⟩ = 0 := by rw [HW.out, if_pos he]
    rw [hv]
    have hd : ((er : Int) == 0) = false := by simp; omega
    clear hv HW
    go_enter Tryz.func121, Tryz.ntmps121
    go_wp2
    go_quiet (fail)
    go_wp2
    go_ret
    exact ⟨rfl, _, rfl⟩
  subst he
  have hd : (((0 : Nat) : Int) == 0) = true := rfl
  obtain ⟨m, hm⟩ : ∃ m, m = U.ts.length := ⟨_, rfl⟩
  have HM := Lib.hid hm
  rw [← hm] at hc2 hlow hfew
  by_cases hi : i < m
  case neg =>
    have hv : U.env.kind ⟨i, 0, pl⟩ = 0 := by
      rw [HW.out, if_neg (by simp)]
      have : U.env.ts[i]? = none := env_out (by rw [← HM.out]; omega)
      rw [this]
      rfl
    rw [hv]
    have hge : decide ((i : Int) ≥ (m : Int)) = true := by simp; omega
    clear hv HW hm
    go_enter Tryz.func121, Tryz.ntmps121
    go_wp2
    go_quiet (fail)
    go_wp2
    go_ret
    exact ⟨rfl, _, rfl⟩
  have hi2 : i < U.ts.length := by rw [← hm]; exact hi
  obtain ⟨b, hb, k0, k1, k2, k3⟩ := HT.out hi2
  obtain ⟨ha, hz⟩ := HE.out hi2
  have hv : U.env.kind ⟨i, 0, pl⟩ = (tkA U.ts i).kind := by
    rw [HW.out, if_neg (by simp), HH.out hi2]
    rfl
  rw [hv]
  have hge : decide ((i : Int) ≥ (m : Int)) = false := by simp; omega
  rw [hb] at hc2
  generalize (tkA U.ts i).kind = A at *
  have q1 : (0 : Int) ≤ (i : Int) := by omega
  have q2 : (i : Int) < (m : Int) := by omega
  clear hv HW hm HT HE HH k1 k2 k3 HL ha hz
  go_enter Tryz.func121, Tryz.ntmps121
  go_wp2
  go_quiet (fail)
  go_wp2
  go_quiet (fail)
  go_wp2
  go_ret
  exact ⟨rfl, _, by first | rfl | exact World.drewN_drewN _ _ _⟩
end Go.Proofs.YtokmehjofboflaaGreatDoor
namespace Go.Proofs.YtokmehjofboflaaGreatDoor
set_option maxRecDepth 100000
open Go.RowKit

/-- a step of the reader: its struct's new state, and no other old block turned -/
structure Step6 (U : Sur) (w w' : World) (s' : St) : Prop where
  at_ : PAt U w' s'
  grow : w.grownBy w' (some U.W.heap.size)
theorem grown_set6 (w : World) (b i : Nat) (v : Value) : w.grownBy (w.setCell ⟨b, i, none⟩ v) (some b) :=
  ⟨rfl, rfl, rfl, by simp [World.setCell], fun k _ hne => Below.heap_setCell w _ _ k (by intro e; exact hne (by rw [e]))⟩
theorem grown_draws (w : World) (n : Nat) (r : Option Nat) : w.grownBy (w.drewN n) r := ⟨rfl, rfl, rfl, Nat.le_refl _, fun _ _ _ => rfl⟩
theorem fail_bad {V : Env} {s : St} (h : s.err ≠ 0) (e : Nat) : V.fail s e = s := by unfold Env.fail; rw [if_pos h]
theorem fail_good {V : Env} {s : St} (h : s.err = 0) (e : Nat) : V.fail s e = ⟨s.i, e, V.here s⟩ := by unfold Env.fail; rw [if_neg (by omega)]
set_option maxHeartbeats 1000000 in
theorem failP_any (U : Sur) (hU : U.Ok) (s : St) (w : World) (h : PAt U w s) (e0 : Nat) :
    Calls Tryz.prog 26 #[.pointer (some ⟨U.W.heap.size, 0, none⟩), .int .i64 (e0 : Int)] w fun e w' => e = .returned (.tuple #[]) ∧ Step6 U w w' (U.env.fail s e0) := by
  have HP := Lib.hid h
  have hc0 := h.c0
  have hc2 := h.c2
  have hc3 := h.c3
  have hc4 := h.c4
  have hc5 := h.c5
  have hf4 := h.f4
  have hf5 := h.f5
  have hlow := h.low
  have hfew := hU.few
  have hsh := hU.short
  have hL := mkS_size U.tx
  by_cases he : s.err = 0
  case neg =>
    have HF := Lib.hid (fail_bad (V := U.env) he e0)
    have hd : ((s.err : Int) == 0) = false := by simp; omega
    have HG := Lib.hid (World.grownBy.refl w (some U.W.heap.size))
    clear h hU hf4 hf5
    generalize hpb : U.W.heap.size = pb at *
    go_enter Tryz.func26, Tryz.ntmps26
    go_wp2
    (try simp only [Exit.inBlock, Exit.then])
    refine bodyPost_ret (results_none rfl _ _ _) rfl ?_
    exact ⟨rfl, by rw [HF.out]; exact HP.out, by rw [hpb]; exact HG.out⟩
  have hd : ((s.err : Int) == 0) = true := by simp; omega
  have h2 := (h.set4 e0).set5 U.tx.length
  have hg2 := (grown_set6 w U.W.heap.size 4 (.int .i64 (e0 : Int))).trans (grown_set6 _ U.W.heap.size 5 (.int .i64 (U.tx.length : Int)))
  have HP2 := Lib.hid h2
  have HG2 := Lib.hid hg2
  have HU := Lib.hid hU
  have hX : (mkS U.tx).size = U.tx.length := hL
  have HF := Lib.hid (fail_good (V := U.env) he e0)
  have d5 : ((w.setCell ⟨U.W.heap.size, 4, none⟩ (.int .i64 (e0 : Int))).cell? ⟨U.W.heap.size, 5, none⟩) = some (.int .i64 (s.place : Int)) := (h.set4 e0).c5
  have g5 : (w.setCell ⟨U.W.heap.size, 4, none⟩ (.int .i64 (e0 : Int))).frozen? ⟨U.W.heap.size, 5, none⟩ = false := (h.set4 e0).f5
  clear h hU h2 hg2 hc2 hc3
  generalize hpb : U.W.heap.size = pb at *
  generalize mkS U.tx = X at *
  go_enter Tryz.func26, Tryz.ntmps26
  go_wp2_with fail
  clear hc0 hc4 hc5 hf4 hf5 d5 g5
  obtain ⟨W2, hW2⟩ : ∃ x, x = (w.setCell ⟨pb, 4, none⟩ (.int .i64 (e0 : Int))).setCell ⟨pb, 5, none⟩ (.int .i64 (U.tx.length : Int)) := ⟨_, rfl⟩
  rw [← hW2] at HP2 HG2 ⊢
  clear hW2
  have k2 := HP2.out.c2
  have k3 := HP2.out.c3
  have k5 := HP2.out.c5
  have f5 := HP2.out.f5
  rw [hpb] at k2 k3 k5 f5
  dsimp only at k3 k5
  by_cases hi : s.i < U.ts.length
  case neg =>
    have hh : U.env.here s = U.tx.length := by
      unfold Env.here
      have : U.env.ts[s.i]? = none := env_out (by omega)
      rw [this]
      rfl
    have hlt : decide ((s.i : Int) < (U.ts.length : Int)) = false := by simp; omega
    go_quiet (fail)
    go_wp2
    go_end0
    exact ⟨rfl, by rw [HF.out, hh]; exact (HP2.out).drew _, by rw [hpb]; exact HG2.out.trans (grown_draws _ _ _)⟩
  obtain ⟨b, hb, t0, t1, t2, t3⟩ := HP2.out.tok HU.out hi
  dsimp only at t1
  have hh : U.env.here s = (tkA U.ts s.i).at_ := by
    unfold Env.here
    rw [U.here hi]
    rfl
  have hlt : (s.i : Int) < (U.ts.length : Int) := by omega
  have h0 : (0 : Int) ≤ (s.i : Int) := by omega
  rw [hb] at k2
  clear t0 t2 t3
  rw [hh] at HF
  generalize (tkA U.ts s.i).at_ = A at *
  generalize U.ts.length = m at *
  generalize s.i = i at *
  go_quiet (fail)
  go_wp2_with fail
  go_region
  go_wp2
  go_end0
  refine ⟨rfl, ?_, ?_⟩
  · have := (HP2.out.drew (nq + 1)).set5 A
    rw [hpb] at this
    rw [HF.out]
    exact this
  · rw [hpb]
    exact (HG2.out.trans (grown_draws W2 (nq + 1) _)).trans (grown_set6 _ pb 5 _)
theorem take_in {U : Sur} {s : St} {x : Bytes} (hx : x ≠ []) (h : U.env.word s = x) : s.err = 0 ∧ s.i < U.ts.length := by
  have := in_of (V := U.env) (s := s) (by rw [h]; exact hx)
  exact ⟨this.1, by have := this.2; rwa [show U.env.ts.length = U.ts.length from env_len _ _ _] at this⟩
set_option maxHeartbeats 1000000 in
theorem takeP_any (U : Sur) (hU : U.Ok) (s : St) (w : World) (h : PAt U w s) (x : Bytes) (hx : x ≠ []) :
    Calls Tryz.prog 54 #[.pointer (some ⟨U.W.heap.size, 0, none⟩), .string (mkS x)] w fun e w' => e = .returned (.bool (decide (U.env.word s = x))) ∧ Step6 U w w' (if U.env.word s = x then s.adv else s) := by
  have HWd := Lib.hid (wordP_any U hU s w h)
  have HP := Lib.hid h
  have HT := Lib.hid (take_in (U := U) (s := s) hx)
  have HE := Lib.hid (fun (l : Bytes) => mkS_eq l x)
  have hc3 := h.c3
  have hf3 := h.f3
  have hlow := h.low
  have hfew := hU.few
  clear h hU
  generalize hpb : U.W.heap.size = pb at *
  generalize U.env.word s = y at *
  by_cases hy : y = x
  case neg =>
    have hb := mkS_not hy
    rw [if_neg hy, decide_eq_false hy]
    clear HE hc3 hf3
    go_enter Tryz.func54, Tryz.ntmps54
    go_wp2_with (go_at_call 100; refine HWd.out.mono ?_; rintro e w1 ⟨rfl, m, rfl⟩)
    go_ret
    exact ⟨rfl, HP.out.drew m, by rw [hpb]; exact grown_draws _ _ _⟩
  subst hy
  rw [if_pos rfl, decide_eq_true rfl]
  have hb := mkS_same y
  obtain ⟨_, hi⟩ := HT.out rfl
  clear HE HT
  generalize hm : U.ts.length = n at *
  have HS : Hid (∀ m, PAt U ((w.drewN m).setCell ⟨pb, 3, none⟩ (.int .i64 ((s.i + 1 : Nat) : Int))) s.adv) := Lib.hid (fun m => by
    have := (HP.out.drew m).set3 (s.i + 1) (by rw [hm]; omega)
    rwa [hpb] at this)
  clear HP
  obtain ⟨i, er, pl⟩ := s
  dsimp only at hi hc3 hlow HS
  go_enter Tryz.func54, Tryz.ntmps54
  go_wp2_with (go_at_call 100; refine HWd.out.mono ?_; rintro e w1 ⟨rfl, m, rfl⟩)
  go_ret
  refine ⟨rfl, HS.out m, ?_⟩
  rw [hpb]
  exact (grown_draws w m _).trans (grown_set6 _ pb 3 _)
set_option maxHeartbeats 1000000 in
theorem wantP_any (U : Sur) (hU : U.Ok) (s : St) (w : World) (h : PAt U w s) (x : Bytes) (hx : x ≠ []) :
    Calls Tryz.prog 55 #[.pointer (some ⟨U.W.heap.size, 0, none⟩), .string (mkS x)] w fun e w' => e = .returned (.tuple #[]) ∧ Step6 U w w' (U.env.want x s) := by
  have HT := Lib.hid (takeP_any U hU s w h x hx)
  have HF := Lib.hid (fun W (h : PAt U W s) => failP_any U hU s W h 4)
  have HE : Hid (U.env.want x s = if U.env.word s = x then s.adv else U.env.fail s 4) := Lib.hid rfl
  clear h hU
  generalize hpb : U.W.heap.size = pb at *
  generalize U.env.want x s = s2 at *
  generalize U.env.word s = y at *
  by_cases hy : y = x
  · rw [decide_eq_true hy, if_pos hy] at HT
    rw [if_pos hy] at HE
    clear HF
    go_enter Tryz.func55, Tryz.ntmps55
    go_wp2_with (go_at_call 54; refine HT.out.mono ?_; rintro e w1 ⟨rfl, h1⟩)
    go_end0
    exact ⟨rfl, by rw [HE.out]; exact h1⟩
  · rw [decide_eq_false hy, if_neg hy] at HT
    rw [if_neg hy] at HE
    go_enter Tryz.func55, Tryz.ntmps55
    go_wp2_with (first | (go_at_call 54; refine HT.out.mono ?_; rintro e w1 ⟨rfl, h1⟩) | (go_at_call 26; refine (HF.out _ h1.at_).mono ?_; rintro e w2 ⟨rfl, h2⟩))
    go_end0
    exact ⟨rfl, by rw [HE.out]; exact ⟨h2.at_, h1.grow.trans h2.grow⟩⟩
end Go.Proofs.YtokmehjofboflaaGreatDoor
namespace Go.Proofs.YtokmehjofboflaaGreatDoor
set_option maxRecDepth 100000
open Go.RowKit

/-- an outcome: a list of the call's own, and a step -/
def Out6 (U : Sur) (w : World) (o : Out) (e : Ending) (w' : World) : Prop :=
  ∃ a c, e = .returned (.slice a o.1.length c) ∧ OwnT (U.W.heap.size + 1) w' (.slice a o.1.length c) o.1 ∧ Step6 U w w' o.2
theorem grown_alloc6 (w : World) (o : Obj) (r : Option Nat) : w.grownBy (w.alloc o) r := by
  have h := (Below.refl w.heap.size w).alloc (Nat.le_refl _) o
  exact ⟨h.os, h.tape, h.output, h.size, fun k hk _ => h.block k hk⟩
theorem below_alloc6 (w : World) (o : Obj) : Below w.heap.size w (w.alloc o) := (Below.refl _ _).alloc (Nat.le_refl _) o
theorem OwnT.none6 (B : Nat) (w : World) : OwnT B w (.slice none 0 0) [] := World.ownsRow_nil _ _ _ _
/-- a list of one's own stands over a step -/
theorem OwnT.step {U : Sur} {w w' : World} {s' : St} {v : Value} {xs : List (Int × Int)} (h : OwnT (U.W.heap.size + 1) w v xs) (hs : Step6 U w w' s') : OwnT (U.W.heap.size + 1) w' v xs :=
  World.ownsRow.kept h hs.grow (by
    rcases h.2 with ⟨rfl, _⟩ | ⟨g, cap, cur, rfl, hB, _⟩
    · simp [Value.ownBlock]
    · simp [Value.ownBlock]
      omega)
theorem Step6.trans {U : Sur} {w w1 w2 : World} {s1 s2 : St} (h : Step6 U w w1 s1) (k : Step6 U w1 w2 s2) : Step6 U w w2 s2 := ⟨k.at_, h.grow.trans k.grow⟩
theorem Step6.draws {U : Sur} {w : World} {s : St} (h : PAt U w s) (n : Nat) : Step6 U w (w.drewN n) s := ⟨h.drew n, grown_draws _ _ _⟩
theorem Step6.quiet {U : Sur} {w w' : World} {s : St} (h : PAt U w s) (hm : ∃ m, w' = w.drewN m) : Step6 U w w' s := by
  obtain ⟨m, rfl⟩ := hm
  exact Step6.draws h m
theorem Step6.alloc {U : Sur} {w w1 : World} {s1 : St} (h : Step6 U w w1 s1) (o : Obj) : Step6 U w (w1.alloc o) s1 := ⟨h.at_.far (below_alloc6 _ _), h.grow.trans (grown_alloc6 _ _ _)⟩
theorem Step6.adv {U : Sur} {w w1 : World} {s : St} (h : Step6 U w w1 s) (hi : s.i < U.ts.length) : Step6 U w (w1.setCell ⟨U.W.heap.size, 3, none⟩ (.int .i64 ((s.i : Int) + 1))) s.adv := by
  have e : (s.i : Int) + 1 = ((s.i + 1 : Nat) : Int) := by omega
  rw [e]
  exact ⟨h.at_.set3 _ hi, h.grow.trans (grown_set6 _ _ _ _)⟩
/-- a new list of one term -/
theorem lit6 {U : Sur} {w : World} {s : St} (h : PAt U w s) (a b : Int) : OwnT (U.W.heap.size + 1) (w.alloc (.cells #[.int .i64 a, .int .i64 b] 38)) (.slice (some ⟨w.heap.size, 0, none⟩) 1 1) [(a, b)] :=
  OwnT.lit w _ [(a, b)] #[.int .i64 a, .int .i64 b] 1 rfl rfl h.lt (by simp [maxLen])
/-- the same behind a store into the reader's struct -/
theorem lit6s {U : Sur} {w : World} {s : St} (h : PAt U w s) (p : Addr) (v : Value) (xs : List (Int × Int)) (cs : Array Value) (n : Nat) (hn : n = xs.length) (hc : cs.toList = linkVs xs) (hm : xs.length ≤ maxLen) : OwnT (U.W.heap.size + 1) ((w.setCell p v).alloc (.cells cs 38)) (.slice (some ⟨w.heap.size, 0, none⟩) n n) xs := by
  have := OwnT.lit (w.setCell p v) (U.W.heap.size + 1) xs cs n hn hc (by rw [setCell_size]; exact h.lt) hm
  rwa [setCell_size] at this
theorem idx_cases (ns : List Bytes) (l : Bytes) : (idxN ns l = none ∧ idxI ns l = -1) ∨ ∃ x : Nat, idxN ns l = some x ∧ idxI ns l = (x : Int) := by
  unfold idxI
  cases idxN ns l with
  | none => exact .inl ⟨rfl, rfl⟩
  | some x => exact .inr ⟨x, rfl, rfl⟩
theorem good_few {ns : List Bytes} (h : goodF ns = true) : ns.length ≤ 6 := by
  unfold goodF at h
  rw [Bool.and_eq_true, decide_eq_true_eq] at h
  exact h.1
set_option maxHeartbeats 1000000 in
theorem varP_any (U : Sur) (hU : U.Ok) (s : St) (w : World) (h : PAt U w s) (op : Int) :
    Calls Tryz.prog 124 #[.pointer (some ⟨U.W.heap.size, 0, none⟩), .int .i64 op] w (Out6 U w (U.env.var op s)) := by
  have HWd := Lib.hid (fun W (h : PAt U W s) => wordP_any U hU s W h)
  have HF := Lib.hid (fun W (h : PAt U W s) (k : Nat) => failP_any U hU s W h k)
  have HP := Lib.hid h
  have hnm := fun W => nameR_any (mkS (U.env.word s)) W
  rw [mkS_list] at hnm
  have HNM := Lib.hid hnm
  have HI := Lib.hid (fun W (h : PAt U W s) => indexR_any U.na U.nc U.ns (U.env.word s) W (hU.names.below h.bel rfl) (by have := good_few hU.good; omega))
  have HV : Hid (U.env.var op s = if nameF (U.env.word s) = false then ([], U.env.fail s 4) else match idxN U.ns (U.env.word s) with
    | none => ([], U.env.fail s 5)
    | some x => ([(op, (x : Int))], s.adv)) := Lib.hid rfl
  have HIn : Hid (nameF (U.env.word s) = true → s.i < U.ts.length) := Lib.hid (fun hn => by
    have := in_of (V := U.env) (s := s) (by intro e; rw [e] at hn; cases hn)
    exact (by have := this.2; rwa [show U.env.ts.length = U.ts.length from env_len _ _ _] at this))
  have hc1 := h.c1
  have hc3 := h.c3
  have hf3 := h.f3
  have hlow := h.low
  have hfew := hU.few
  have hidx := idx_cases U.ns (U.env.word s)
  clear hnm h hU
  generalize hpb : U.W.heap.size = pb at *
  generalize U.env.var op s = o at *
  generalize U.env.word s = y at *
  unfold Out6
  rw [hpb]
  cases hn : nameF y with
  | false =>
    rw [hn] at HNM
    rw [hn, if_pos rfl] at HV
    have ho := HV.out
    clear HI hidx
    subst ho
    go_enter Tryz.func124, Tryz.ntmps124
    go_wp2_with (first | (go_at_call 100; refine (HWd.out _ HP.out).mono ?_; rintro e w1 ⟨rfl, hm⟩; have S1 := Step6.quiet HP.out hm; clear hm) | (go_at_call 49; refine (HNM.out _).mono ?_; rintro e w2 ⟨rfl, rfl⟩) | (go_at_call 26; refine (HF.out _ S1.at_ 4).mono ?_; rintro e w3 ⟨rfl, h3⟩))
    go_ret
    exact ⟨none, 0, rfl, OwnT.none6 _ _, S1.trans h3⟩
  | true =>
    rw [hn] at HNM
    rw [hn, if_neg (by decide)] at HV
    have hi := HIn.out hn
    rcases hidx with ⟨hx, hz⟩ | ⟨x, hx, hz⟩
    · rw [hx] at HV
      rw [hz] at HI
      have ho := HV.out
      subst ho
      go_enter Tryz.func124, Tryz.ntmps124
      go_wp2_with (first | (go_at_call 100; refine (HWd.out _ HP.out).mono ?_; rintro e w1 ⟨rfl, hm⟩; have S1 := Step6.quiet HP.out hm; clear hm) | (go_at_call 49; refine (HNM.out _).mono ?_; rintro e w2 ⟨rfl, rfl⟩))
      have k1 := S1.at_.c1
      have k3 := S1.at_.c3
      have kf := S1.at_.f3
      rw [hpb] at k1 k3 kf
      go_quiet ((first | (go_at_call 100; exact Calls.quiet_of (HWd.out _ (S1.at_.drew _))) | (go_at_call 50; exact Calls.quiet_of_same (HI.out _ (S1.at_.drew _)))))
      go_wp2_with (go_at_call 26; refine (HF.out _ (S1.at_.drew nq) 5).mono ?_; rintro e w3 ⟨rfl, h3⟩)
      go_ret
      exact ⟨none, 0, rfl, OwnT.none6 _ _, (S1.trans (Step6.draws S1.at_ nq)).trans h3⟩
    · rw [hx] at HV
      rw [hz] at HI
      have ho := HV.out
      subst ho
      go_enter Tryz.func124, Tryz.ntmps124
      go_wp2_with (first | (go_at_call 100; refine (HWd.out _ HP.out).mono ?_; rintro e w1 ⟨rfl, hm⟩; have S1 := Step6.quiet HP.out hm; clear hm) | (go_at_call 49; refine (HNM.out _).mono ?_; rintro e w2 ⟨rfl, rfl⟩))
      have k1 := S1.at_.c1
      have k3 := S1.at_.c3
      have kf := S1.at_.f3
      rw [hpb] at k1 k3 kf
      go_quiet ((first | (go_at_call 100; exact Calls.quiet_of (HWd.out _ (S1.at_.drew _))) | (go_at_call 50; exact Calls.quiet_of_same (HI.out _ (S1.at_.drew _)))))
      go_wp2_with fail
      go_ret
      have hS := (S1.trans (Step6.draws S1.at_ nq)).adv hi
      rw [hpb] at hS
      refine ⟨_, _, rfl, ?_, hS.alloc _⟩
      have := lit6s (S1.at_.drew nq) ⟨pb, 3, none⟩ (.int .i64 ((s.i : Int) + 1)) [(op, (x : Int))] #[.int .i64 op, .int .i64 x] 1 rfl rfl (by simp [maxLen])
      rw [hpb] at this
      exact this
end Go.Proofs.YtokmehjofboflaaGreatDoor
namespace Go.Proofs.YtokmehjofboflaaGreatDoor
set_option maxRecDepth 100000
open Go.RowKit

section
variable {ops : Array Oper} {o : Oper} {a : Act} {w W : World} {K : Act → World → Prop} {Q : Exit → Act → World → Prop} {E : Prop} {rest : List Oper}
theorem run_appO (ty : TypeId) (B B2 : Nat) (v u : Value) (ys xs : List (Int × Int)) (hown : OwnT B w v ys) (hx : OwnT B2 w u xs) (hl : ys.length + xs.length ≤ 1000000) (hB : B ≤ w.heap.size) :
    ∃ a' c' w', (Builtin.append_ #[25, 25] ty #[v, u]).run Tryz.prog w = .ok (.slice a' (ys.length + xs.length) c') w' ∧ OwnT B w' (.slice a' (ys.length + xs.length) c') (ys ++ xs) ∧ w.grownBy w' v.ownBlock := by
  obtain ⟨i, hi, hz, hz1, hz2⟩ := info_parts infoTerm
  rcases hx.2 with ⟨rfl, h0⟩ | ⟨g, cap, cur, rfl, _, hg, h1, h2, _⟩
  · have hx0 : xs = [] := List.eq_nil_of_length_eq_zero h0
    subst hx0
    have hr := run_append_owned_none (P := Tryz.prog) (w := w) B 25 ty 38 i 2 Tryz.underlying25 hi v ys.length (linkVs ys) hown
    obtain ⟨a', c', e, _⟩ := hown.shape
    refine ⟨a', c', w, ?_, ?_, World.grownBy.refl _ _⟩
    · rw [hr, e]
      rfl
    · rw [List.append_nil]
      rw [e] at hown
      exact hown
  · obtain ⟨v', w', hr, h4, h3, _⟩ := run_append_own (P := Tryz.prog) w B 25 ty 38 i (.agg #[.int .i64 0, .int .i64 0]) 2 16 Tryz.underlying25 hi hz hz1 hz2 rfl (by decide) v ys.length (linkVs ys) hown ⟨g, 0, none⟩ xs.length cap (linkVs xs) (linkVs_len xs) (fun j u hj => by
      have hlt : j < xs.length * 2 := by
        rw [← linkVs_len]
        exact (List.getElem?_eq_some_iff.1 hj).1
      have := World.ownsRow.cellAt hx j hlt
      rw [add_none, Nat.zero_add, this, hj]) linkVs_one (by unfold maxLen; omega) (by omega) hB
    rw [← linkVs_append] at h4
    have h2' : OwnT B w' v' (ys ++ xs) := by
      unfold OwnT
      rw [List.length_append]
      exact h4
    obtain ⟨a', c', e, _⟩ := h2'.shape
    rw [List.length_append] at e
    subst e
    exact ⟨a', c', w', hr, h2', h3⟩
theorem wpList_appO (hgd : o.guard = none) (s x : Operand) (ho : o.op = .call { callee := .builtin .append, args := #[s, x], argTypes := #[25, 25] })
    (B B2 : Nat) (v u : Value) (ys xs : List (Int × Int)) (hown : OwnT B w v ys) (hx : OwnT B2 w u xs) (n m : Nat) (hn : n = ys.length) (hm : m = xs.length) (hs' : a.eval s = v) (hxe : a.eval x = u) (hl : n + m ≤ 1000000) (hB : B ≤ w.heap.size)
    (hK : ∀ a' c' w', OwnT B w' (.slice a' (n + m) c') (ys ++ xs) → w.grownBy w' v.ownBlock → wpList Tryz.prog ops Q rest (a.put o.dst (.slice a' (n + m) c')) w') :
    wpList Tryz.prog ops Q (o :: rest) a w := by
  subst hn hm
  refine wpList_plain hgd fun K hK' => ?_
  obtain ⟨a', c', w', hr, h2, h3⟩ := run_appO o.type B B2 v u ys xs hown hx hl hB
  unfold Oper.wp execOp
  simp only [ho, resolve, invoke, builtin, Sem.run_bind, Sem.run_pure, Result.andThen_ok, List.map_toArray, List.map_cons, List.map_nil, hs', hxe, hr]
  exact hK' _ _ (hK a' c' w' h2 h3)
end
theorem own_low {B : Nat} {w : World} {v : Value} {xs : List (Int × Int)} (h : OwnT B w v xs) {k : Nat} (e : v.ownBlock = some k) : B ≤ k := by
  rcases h.2 with ⟨rfl, _⟩ | ⟨g, cap, cur, rfl, hB, _⟩
  · simp [Value.ownBlock] at e
  · simp [Value.ownBlock] at e
    omega
theorem OwnT.base {B B2 : Nat} {w : World} {v : Value} {xs : List (Int × Int)} (h : OwnT B w v xs) (hB : B2 ≤ B) : OwnT B2 w v xs := by
  refine ⟨h.1, ?_⟩
  rcases h.2 with h | ⟨g, cap, cur, e, h1, h2⟩
  · exact .inl h
  · exact .inr ⟨g, cap, cur, e, by omega, h2⟩
theorem flat_len_le : ∀ (xss : List (List (Int × Int))) (i : Nat), (xss.take i).flatten.length ≤ xss.flatten.length
  | [], i => by simp
  | x :: r, 0 => by simp
  | x :: r, i + 1 => by
    have := flat_len_le r i
    simp at this ⊢
    omega
theorem flat_step {xss : List (List (Int × Int))} {i : Nat} (hi : i < xss.length) : (xss.take (i + 1)).flatten = (xss.take i).flatten ++ xss.getD i [] := by
  rw [List.take_succ_eq_append_getElem hi, List.flatten_append, List.getD_eq_getElem?_getD, List.getElem?_eq_getElem hi]
  simp
set_option maxHeartbeats 1000000 in
theorem operR_any (op : Int) (B b k c : Nat) (vs : Nat → Value) (xss : List (List (Int × Int))) (w : World) (hk : xss.length = k) (hb : b < w.heap.size) (hc : ∀ i, i < k → w.cell? ⟨b, i, none⟩ = some (vs i)) (hO : ∀ i, i < k → OwnT B w (vs i) (xss.getD i [])) (hs : xss.flatten.length ≤ 100000) (hk9 : k ≤ 9) :
    Calls Tryz.prog 56 #[.int .i64 op, .slice (some ⟨b, 0, none⟩) k c] w fun e w' => ∃ a c', e = .returned (.slice a (xss.flatten.length + 1) c') ∧ OwnT w.heap.size w' (.slice a (xss.flatten.length + 1) c') ((op, 0) :: xss.flatten) ∧ Below w.heap.size w w' := by
  have HC := Lib.hid hc
  have HO := Lib.hid hO
  have HS := Lib.hid hs
  clear hc hO hs
  go_enter Tryz.func56, Tryz.ntmps56
  go_wp2_with fail
  go_loopw [5, 6] (fun to ti wr => ∃ (i n : Nat) (a : Option Addr) (c' : Nat), to = .slice a n c' ∧ ti = .int .i64 i ∧ i ≤ k ∧ n = (xss.take i).flatten.length + 1 ∧ OwnT w.heap.size wr (.slice a n c') ((op, 0) :: (xss.take i).flatten) ∧ Below w.heap.size w wr) (fun _ ti _ => k - (intOf ti).toNat)
  case atStart => exact ⟨0, 1, _, _, rfl, rfl, Nat.zero_le _, rfl, OwnT.lit w _ [(op, 0)] #[.int .i64 op, .int .i64 0] 1 rfl rfl (Nat.le_refl _) (by simp [maxLen]), by first | exact below_alloc6 _ _ | exact belDraws (below_alloc6 _ _) _⟩
  case round =>
    obtain ⟨i, n, a, c', rfl, rfl, hi, hn, hown, hbr⟩ := hrel
    by_cases hlt : i < k
    · have hcell := (hbr.cell (p := ⟨b, i, none⟩) hb).trans (HC.out i hlt)
      have hop := (HO.out i hlt).far hbr
      have hfl := flat_step (xss := xss) (i := i) (by omega)
      have hle := flat_len_le xss (i + 1)
      have HFL := Lib.hid hfl
      have HSZ : Hid ((xss.take (i + 1)).flatten.length = (xss.take i).flatten.length + (xss.getD i []).length) := Lib.hid (by rw [hfl, List.length_append])
      have HLE : Hid ((xss.take (i + 1)).flatten.length ≤ 100000) := Lib.hid (by have := HS.out; omega)
      obtain ⟨a1, c1, e1, _⟩ := hop.shape
      obtain ⟨m, hm⟩ : ∃ m, m = (xss.getD i []).length := ⟨_, rfl⟩
      rw [← hm] at e1
      rw [e1] at hcell hop
      have HOp := Lib.hid hop
      have HOwn := Lib.hid hown
      have HM := Lib.hid hm
      have HN := Lib.hid hn
      have HB := Lib.hid hbr
      clear hop hown hfl hle hm hn e1
      have q0 : (0 : Int) ≤ (i : Int) := by omega
      have q1 : (i : Int) < (k : Int) := by omega
      go_wp2_with (at_builtin; (refine wpList_appO rfl (.tmp 16) (.tmp 20) rfl w.heap.size B _ _ _ _ HOwn.out HOp.out n m (by have := HN.out; rw [List.length_cons]; omega) HM.out rfl rfl (by have := HN.out; have := HM.out; have := HSZ.out; have := HLE.out; omega) HB.out.size ?_); intro a2 c2 w2 hown2 hg2)
      go_roundw
      case rel =>
        refine ⟨i + 1, n + m, a2, c2, rfl, by go_num, hlt, by have := HN.out; have := HM.out; have := HSZ.out; omega, ?_, HB.out.grown hg2 HB.out.size (fun kk ee => own_low HOwn.out ee)⟩
        rw [HFL.out]
        exact hown2
      case measure => simp [intOf]; omega
    · obtain rfl : i = k := by omega
      rw [← hk, List.take_length] at hn hown
      subst hn
      go_wp2
      go_ret
      exact ⟨a, c', rfl, hown, hbr⟩
end Go.Proofs.YtokmehjofboflaaGreatDoor
