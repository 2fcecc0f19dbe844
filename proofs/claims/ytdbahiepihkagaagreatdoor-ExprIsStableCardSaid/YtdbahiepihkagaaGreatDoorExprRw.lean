/- The cursor's Read catches the panic of what it lets read; what it answers for the reader of expressions. -/
import Derived.Test.YtdbahiepihkagaaGreatDoorExprTree
import Derived.Test.YtdbahiepihkagaaGreatDoorExprBin
import Derived.Test.YtdbahiepihkagaaGreatDoorExprRj
import Derived.Laws.Pointers
namespace Go.Proofs.YtdbahiepihkagaaGreatDoor
set_option maxRecDepth 100000

structure Heads (V : Env) (P : Int × Int → Prop) : Prop where
  op : ∀ z, 0 ≤ z → z ≤ 43 → P (z, 0)
  num : ∀ s, V.kind s = 2 → P (1, (V.num s : Int))
  name : ∀ op (x : Nat), (op = 5 ∨ op = 12) → x < V.ns.length → P (op, (x : Int))
def Go6.list : Go6 → List (Int × Int)
  | .more _ l => l
  | _ => []
theorem look_low {T : List (Bytes × Int)} (hT : T.all (fun x => decide (0 ≤ x.2 ∧ x.2 ≤ 43)) = true) (l : Bytes) : 0 ≤ lookW T l ∧ lookW T l ≤ 43 := by
  unfold lookW
  cases hf : T.find? fun x => x.1 == l with
  | none => exact ⟨by decide, by decide⟩
  | some x =>
    rw [List.all_eq_true] at hT
    have := hT x (List.mem_of_find?_eq_some hf)
    simpa using this
theorem bin_low (l : Bytes) : 0 ≤ (binF l).1 ∧ (binF l).1 ≤ 43 := by
  unfold binF lookT
  cases hf : signT.find? fun x => x.1 == l with
  | none => exact ⟨by decide, by decide⟩
  | some x =>
    have h : signT.all (fun x => decide (0 ≤ x.2.1 ∧ x.2.1 ≤ 43)) = true := by decide
    rw [List.all_eq_true] at h
    have := h x (List.mem_of_find?_eq_some hf)
    simpa using this
theorem idx_lt : ∀ {ns : List Bytes} {l : Bytes} {x : Nat}, idxN ns l = some x → x < ns.length
  | [], _, _, h => by cases h
  | y :: r, l, x, h => by
    unfold idxN at h
    split at h
    · injection h with h
      subst h
      simp
    · cases hr : idxN r l with
      | none => rw [hr] at h; cases h
      | some k =>
        rw [hr] at h
        have := idx_lt hr
        have e : k + 1 = x := by simpa using h
        simp
        omega
theorem Heads.var {V : Env} {P : Int × Int → Prop} (H : Heads V P) {op : Int} (ho : op = 5 ∨ op = 12) (s : St) : ∀ t ∈ (V.var op s).1, P t := by
  intro t ht
  unfold Env.var at ht
  split at ht
  · simp at ht
  · split at ht
    · simp at ht
    · rename_i x hx
      simp at ht
      rw [ht]
      exact H.name op x ho (idx_lt hx)
theorem run_terms {V : Env} {P : Int × Int → Prop} (H : Heads V P) : ∀ (n : Nat) (g : Go6) (s : St) (o : Out), V.run n g s = some o → (∀ t ∈ g.list, P t) → ∀ t ∈ o.1, P t
  | 0, g, s, o, h, _ => by unfold Env.run at h; cases h
  | n + 1, .choice, s, o, h, _ => by
    unfold Env.run at h
    cases h1 : V.run n (.bin 2) s with
    | none => rw [h1] at h; cases h
    | some c =>
      rw [h1, Option.bind_some] at h
      have p1 := run_terms H n _ _ _ h1 (by simp [Go6.list])
      split at h
      · cases h2 : V.run n .choice c.2.adv with
        | none => rw [h2] at h; cases h
        | some a =>
          rw [h2, Option.bind_some] at h
          have p2 := run_terms H n _ _ _ h2 (by simp [Go6.list])
          cases h3 : V.run n .choice (V.want [58] a.2) with
          | none => rw [h3] at h; cases h
          | some b =>
            rw [h3, Option.bind_some] at h
            have p3 := run_terms H n _ _ _ h3 (by simp [Go6.list])
            injection h with h
            subst h
            intro t ht
            rcases List.mem_cons.1 ht with rfl | ht
            · exact H.op 43 (by decide) (by decide)
            · rcases List.mem_append.1 ht with ht | ht
              · exact p1 t ht
              · rcases List.mem_append.1 ht with ht | ht
                · exact p2 t ht
                · exact p3 t ht
      · injection h with h
        subst h
        exact p1
  | n + 1, .bin lv, s, o, h, _ => by
    unfold Env.run at h
    split at h
    · exact run_terms H n _ _ _ h (by simp [Go6.list])
    · cases h1 : V.run n (.bin (lv + 1)) s with
      | none => rw [h1] at h; cases h
      | some l =>
        rw [h1, Option.bind_some] at h
        exact run_terms H n _ _ _ h (run_terms H n _ _ _ h1 (by simp [Go6.list]))
  | n + 1, .more lv l, s, o, h, hl => by
    unfold Env.run at h
    split at h
    · injection h with h
      subst h
      exact hl
    · cases h1 : V.run n (.bin (lv + 1)) s.adv with
      | none => rw [h1] at h; cases h
      | some r =>
        rw [h1, Option.bind_some] at h
        have p1 := run_terms H n _ _ _ h1 (by simp [Go6.list])
        have pn : ∀ t ∈ ((binF (V.word s)).1, (0 : Int)) :: (l ++ r.1), P t := by
          intro t ht
          rcases List.mem_cons.1 ht with rfl | ht
          · exact H.op _ (bin_low _).1 (bin_low _).2
          · rcases List.mem_append.1 ht with ht | ht
            · exact hl t ht
            · exact p1 t ht
        split at h
        · injection h with h
          subst h
          exact pn
        · exact run_terms H n _ _ _ h pn
  | n + 1, .unary, s, o, h, _ => by
    unfold Env.run at h
    split at h
    · cases h1 : V.run n .unary s.adv with
      | none => rw [h1] at h; cases h
      | some x =>
        rw [h1, Option.bind_some] at h
        have p1 := run_terms H n _ _ _ h1 (by simp [Go6.list])
        injection h with h
        subst h
        intro t ht
        rcases List.mem_cons.1 ht with rfl | ht
        · exact H.op 18 (by decide) (by decide)
        · exact p1 t ht
    · split at h
      · cases h1 : V.run n .unary s.adv with
        | none => rw [h1] at h; cases h
        | some x =>
          rw [h1, Option.bind_some] at h
          have p1 := run_terms H n _ _ _ h1 (by simp [Go6.list])
          injection h with h
          subst h
          intro t ht
          rcases List.mem_cons.1 ht with rfl | ht
          · exact H.op 19 (by decide) (by decide)
          · exact p1 t ht
      · exact run_terms H n _ _ _ h (by simp [Go6.list])
  | n + 1, .prim, s, o, h, _ => by
    unfold Env.run at h
    split at h
    · rename_i q
      injection h with h
      subst h
      intro t ht
      simp at ht
      rw [ht]
      exact H.num s q
    · split at h
      · injection h with h
        subst h
        intro t ht
        simp at ht
        rw [ht]
        have := look_low (T := factT) (by decide) (V.word s)
        exact H.op _ this.1 this.2
      · split at h
        · cases h1 : V.run n .choice (V.want [40] s.adv) with
          | none => rw [h1] at h; cases h
          | some y =>
            rw [h1, Option.bind_some] at h
            have p1 := run_terms H n _ _ _ h1 (by simp [Go6.list])
            injection h with h
            subst h
            intro t ht
            rcases List.mem_cons.1 ht with rfl | ht
            · have := look_low (T := aggT) (by decide) (V.word s)
              exact H.op _ this.1 this.2
            · exact p1 t ht
        · split at h
          · cases h1 : V.run n .choice s.adv with
            | none => rw [h1] at h; cases h
            | some y =>
              rw [h1, Option.bind_some] at h
              have p1 := run_terms H n _ _ _ h1 (by simp [Go6.list])
              injection h with h
              subst h
              exact p1
          · split at h
            · injection h with h
              subst h
              intro t ht
              unfold Env.near at ht
              split at ht
              · split at ht
                · simp at ht
                  rw [ht]
                  have := look_low (T := fieldT) (by decide) (V.word s.adv.adv)
                  exact H.op _ this.1 this.2
                · exact H.var (.inr rfl) _ t ht
              · simp at ht
                rw [ht]
                exact H.op 11 (by decide) (by decide)
            · injection h with h
              subst h
              exact H.var (.inl rfl) _
/-- numbers of tokens are small -/
theorem tok_small {l : Bytes} {t : Tk} (h : tokF l = .inr t) : t.num ≤ 1073741824 := by
  unfold tokF at h
  split at h
  · cases h
  · split at h
    · split at h
      · cases h
      · injection h with h
        subst h
        exact Nat.zero_le _
    · split at h
      · split at h
        · cases h
        · rename_i hb
          injection h with h
          subst h
          dsimp only
          simp at hb
          omega
      · split at h
        · cases h
        · injection h with h
          subst h
          exact Nat.zero_le _
theorem scan_num {T : Bytes} {ts : List Tok} (h : scanB T = .inr ts) {k : Nat} (hk : k < ts.length) : (tkA ts k).num ≤ 1073741824 := tok_small (stands h hk).tok
theorem scan_count {T : Bytes} {ts : List Tok} (h : scanB T = .inr ts) : ts.length ≤ T.length := by
  have := (scan_run h).1.sizes.2.1
  omega
/-- the terms of a text that is read -/
theorem out_terms {T : Bytes} {ts : List Tok} {ns : List Bytes} (h : scanB T = .inr ts) (hn : ns.length ≤ 6) : ∀ t ∈ (envF T ts ns).out.1, (0 ≤ t.1 ∧ t.1 ≤ 43) ∧ 0 ≤ t.2 ∧ t.2 ≤ 1073741824 := by
  obtain ⟨n, hr⟩ := read_some (envF T ts ns) .choice ⟨0, 0, 0⟩
  refine run_terms (V := envF T ts ns) ⟨fun z h1 h2 => ⟨⟨h1, h2⟩, by omega, by dsimp only; omega⟩, fun s hk => ?_, fun op x ho hx => ?_⟩ n _ _ _ hr (by simp [Go6.list])
  · refine ⟨⟨by show (0 : Int) ≤ 1; decide, by show (1 : Int) ≤ 43; decide⟩, ?_⟩
    have hi := (kind_in (V := envF T ts ns) (s := s) (by omega)).2
    rw [env_len] at hi
    unfold Env.num
    rw [env_at hi]
    have := scan_num h hi
    show 0 ≤ (((tkA ts s.i).num : Nat) : Int) ∧ _
    constructor
    · omega
    · show (((tkA ts s.i).num : Nat) : Int) ≤ 1073741824
      omega
  · have hx2 : x < ns.length := hx
    dsimp only
    omega
theorem out_len (T : Bytes) (ts : List Tok) (ns : List Bytes) : (envF T ts ns).out.1.length ≤ ts.length := by
  obtain ⟨n, hr⟩ := read_some (envF T ts ns) .choice ⟨0, 0, 0⟩
  have f := run_fine _ _ _ _ _ hr
  have h1 := f.len
  have h2 := f.later.top (Nat.zero_le _)
  rw [env_len] at h2
  have : (envF T ts ns).out = (envF T ts ns).read .choice ⟨0, 0, 0⟩ := rfl
  rw [this]
  simp [Go6.base] at h1
  omega
end Go.Proofs.YtdbahiepihkagaaGreatDoor
namespace Go.Proofs.YtdbahiepihkagaaGreatDoor
set_option maxRecDepth 100000
open Go.RowKit

theorem sur_ok {w w1 : World} {na a : Option Addr} {nc c : Nat} {T : Bytes} {ns : List Bytes} {ts : List Tok} (hN : NamesAt w na ns) (hb : Below w.heap.size w w1) (hT : TokAt w1 a ts) (hg : goodF ns = true) (hs : scanB T = .inr ts) : (Sur.mk w1 na nc a c T ns ts).Ok where
  names := hN.below hb rfl
  toks := hT
  ends := fun _ hk => ⟨Nat.le_of_lt (stands hs hk).lt, (stands hs hk).le⟩
  good := hg
  few := (scan_run hs).2.1
  short := (scan_run hs).2.2
  nums := fun _ hk => scan_num hs hk
theorem pat_new (U : Sur) : PAt U (U.W.alloc (.cells #[.string (mkS U.tx), .slice U.na U.ns.length U.nc, .slice U.ta U.ts.length U.tc, .int .i64 0, .int .i64 0, .int .i64 0] 65)) ⟨0, 0, 0⟩ := by
  refine ⟨below_alloc6 _ _, by simp, boxed6 _ _ _ _, boxed6 _ _ _ _, boxed6 _ _ _ _, boxed6 _ _ _ _, boxed6 _ _ _ _, boxed6 _ _ _ _, World.frozen?_alloc_at _ _ _ _ rfl, World.frozen?_alloc_at _ _ _ _ rfl, World.frozen?_alloc_at _ _ _ _ rfl, Nat.zero_le _⟩
theorem ret_three {u : Value} {a b c d : Int} (h : a = c) (h2 : b = d) : Ending.returned (.tuple #[u, .int .i64 a, .int .i64 b]) = .returned (.tuple #[u, .int .i64 c, .int .i64 d]) := by rw [h, h2]
/-- what Parse answers -/
def ParseOut (x : List (Int × Int) × Nat × Nat) (w : World) (e : Ending) (w' : World) : Prop :=
  (∃ a c, e = .returned (.tuple #[.slice a x.1.length c, .int .i64 (x.2.1 : Int), .int .i64 (x.2.2 : Int)]) ∧ OwnT w.heap.size w' (.slice a x.1.length c) x.1) ∧ Below w.heap.size w w'
theorem parse_bad {w w' : World} (p f : Nat) (hb : Below w.heap.size w w') : ParseOut ([], p, f) w (.returned (.tuple #[.slice none 0 0, .int .i64 (p : Int), .int .i64 (f : Int)])) w' :=
  ⟨⟨none, 0, rfl, OwnT.none6 _ _⟩, hb⟩
theorem i64_terms {xs : List (Int × Int)} (h : ∀ t ∈ xs, (0 ≤ t.1 ∧ t.1 ≤ 43) ∧ 0 ≤ t.2 ∧ t.2 ≤ 1073741824) : ∀ t ∈ xs, I64 t.1 ∧ I64 t.2 := fun t ht => by
  have := h t ht
  unfold I64
  omega
theorem step_below {U : Sur} {w w1 w2 : World} {s : St} (hb : Below w.heap.size w w1) (h1 : w.heap.size ≤ U.W.heap.size) (S : Step6 U w1 w2 s) : Below w.heap.size w w2 := hb.grown S.grow hb.size (fun k e => by
  injection e with e
  omega)
/-- what is read is not too long to be looked at -/
def Fits6 (T : Bytes) (ns : List Bytes) : Prop := ∀ ts, scanB T = .inr ts → (envF T ts ns).out.1.length ≤ 1000
theorem fits_short {T : Bytes} (h : T.length ≤ 1000) (ns : List Bytes) : Fits6 T ns := fun ts hs => by
  have h1 := out_len T ts ns
  have h2 := scan_count hs
  omega
set_option maxHeartbeats 4000000 in
theorem parseR_any (T : Bytes) (na : Option Addr) (nc : Nat) (ns : List Bytes) (w : World) (hN : NamesAt w na ns) (hc : ns.length ≤ nc) (hn : ns.length ≤ 1000000) (hT : Fits6 T ns) :
    Calls Tryz.prog 17 #[.string (mkS T), .slice na ns.length nc] w (ParseOut (parseF T ns) w) := by
  have HN := Lib.hid hN
  have HG := Lib.hid (goodR_any na nc ns w hN hc hn)
  cases hg : goodF ns with
  | false =>
    have hp : parseF T ns = ([], 0, 7) := by unfold parseF; rw [if_pos hg]
    rw [hp]
    rw [hg] at HG
    clear hp hN hc hn hT
    go_enter Tryz.func17, Tryz.ntmps17
    go_wp2_with (go_at_call 37; refine HG.out.mono ?_; rintro e w1 ⟨rfl, hb⟩)
    go_ret3
    exact parse_bad 0 7 hb
  | true =>
  rw [hg] at HG
  have hl : (mkS T).data.toList = T := mkS_list T
  cases hs : scanB T with
  | inl x =>
    obtain ⟨p, f⟩ := x
    have hp : parseF T ns = ([], p, f) := by unfold parseF; rw [if_neg (by rw [hg]; decide), hs]
    have hf : ((f : Int) == 0) = false := by have := scan_errs hs; simp; omega
    have HS := Lib.hid (fun W => scanR_bad_at (s := mkS T) (p := p) (f := f) (by rw [hl]; exact hs) W)
    rw [hp]
    clear hp hN hc hn hT hl hs hg
    go_enter Tryz.func17, Tryz.ntmps17
    go_wp2_with (first | (go_at_call 37; refine HG.out.mono ?_; rintro e w1 ⟨rfl, hb⟩) | (go_at_call 30; refine (HS.out _).mono ?_; rintro e w2 ⟨rfl, hb2⟩))
    go_ret3
    exact parse_bad p f (hb.trans (hb2.mono hb.size))
  | inr ts =>
  have hp : parseF T ns = (envF T ts ns).answer := by unfold parseF; rw [if_neg (by rw [hg]; decide), hs]
  have HS := Lib.hid (fun W => scanR_ok_at (s := mkS T) (ts := ts) (by rw [hl]; exact hs) W)
  have HU : Hid (∀ (w1 : World) (a : Option Addr) (c : Nat), Below w.heap.size w w1 → TokAt w1 a ts → (Sur.mk w1 na nc a c T ns ts).Ok) := Lib.hid (fun w1 a c hb hT => sur_ok hN hb hT hg hs)
  have HC : Hid (∀ (w1 : World) (a : Option Addr) (c : Nat), Below w.heap.size w w1 → TokAt w1 a ts → Calls Tryz.prog 38 #[.pointer (some ⟨w1.heap.size, 0, none⟩)] (w1.alloc (.cells #[.string (mkS T), .slice na ns.length nc, .slice a ts.length c, .int .i64 0, .int .i64 0, .int .i64 0] 65)) (Out6 (Sur.mk w1 na nc a c T ns ts) (w1.alloc (.cells #[.string (mkS T), .slice na ns.length nc, .slice a ts.length c, .int .i64 0, .int .i64 0, .int .i64 0] 65)) (envF T ts ns).out)) :=
    Lib.hid (fun w1 a c hb hT => choice6 (Sur.mk w1 na nc a c T ns ts) (HU.out w1 a c hb hT) ⟨0, 0, 0⟩ _ (pat_new (Sur.mk w1 na nc a c T ns ts)))
  have HFl : Hid (∀ (w1 : World) (a : Option Addr) (c : Nat), Below w.heap.size w w1 → TokAt w1 a ts → ∀ (W : World) (s : St), PAt (Sur.mk w1 na nc a c T ns ts) W s → Calls Tryz.prog 39 #[.pointer (some ⟨w1.heap.size, 0, none⟩), .int .i64 4] W fun e w' => e = .returned (.tuple #[]) ∧ Step6 (Sur.mk w1 na nc a c T ns ts) W w' ((envF T ts ns).fail s 4)) :=
    Lib.hid (fun w1 a c hb hT W s h => failP_any (Sur.mk w1 na nc a c T ns ts) (HU.out w1 a c hb hT) s W h 4)
  have hfit := out_terms (ns := ns) hs (good_few hg)
  have hlen := hT ts hs
  have HV : Hid (∀ (a : Option Addr) (c B : Nat) (W : World), OwnT B W (.slice a (envF T ts ns).out.1.length c) (envF T ts ns).out.1 → Calls Tryz.prog 40 #[.slice a (envF T ts ns).out.1.length c, .int .i64 (ns.length : Int)] W fun e w' => e = .returned (.bool (validE (envF T ts ns).out.1 ns.length)) ∧ Below W.heap.size W w') :=
    Lib.hid (fun a c B W h => validR_any a c _ _ W (h.links (i64_terms hfit)) (by omega))
  have hlast : (envF T ts ns).last = if (envF T ts ns).out.2.err = 0 ∧ (envF T ts ns).out.2.i < ts.length then (envF T ts ns).fail (envF T ts ns).out.2 4 else (envF T ts ns).out.2 := by
    unfold Env.last
    rw [env_len]
  have hans : parseF T ns = if (envF T ts ns).last.err ≠ 0 then ([], (envF T ts ns).last.place, (envF T ts ns).last.err) else if validE (envF T ts ns).out.1 ns.length = false then ([], 0, 3) else ((envF T ts ns).out.1, 0, 0) := by
    rw [hp]
    rfl
  have hfe : ∀ s : St, s.err = 0 → (envF T ts ns).fail s 4 = ⟨s.i, 4, (envF T ts ns).here s⟩ := fun s h => fail_good h 4
  generalize (envF T ts ns).last = L at *
  have HFE := Lib.hid hfe
  have hts : ts.length ≤ 4096 := (scan_run hs).2.1
  clear hfe hp hN hc hn hT hl hs hg hfit hlen HU
  generalize (envF T ts ns).out = o at *
  obtain ⟨x, s⟩ := o
  dsimp only at *
  have i2 : (s.i : Int) < (ts.length : Int) ∨ ¬ (s.i : Int) < (ts.length : Int) := Classical.em _
  by_cases he : s.err = 0
  · have d : ((s.err : Int) == 0) = true := by simp; omega
    by_cases hi : s.i < ts.length
    · have hlt : (s.i : Int) < (ts.length : Int) := by omega
      rw [if_pos ⟨he, hi⟩] at hlast
      have e4 := HFE.out s he
      rw [hlast, e4] at hans
      rw [hans, if_pos (by simp)]
      have HE := Lib.hid e4
      clear hlast e4 hans HFE HV i2
      generalize (envF T ts ns).here s = pl at *
      go_enter Tryz.func17, Tryz.ntmps17
      go_wp2_with (first
      | (go_at_call 37; refine HG.out.mono ?_; rintro e w1 ⟨rfl, hb1⟩)
      | (go_at_call 30; refine (HS.out _).mono ?_; rintro e w2 ⟨⟨ta, tc, rfl, hT, hcc⟩, hb2⟩; have hB2 := hb1.trans (hb2.mono hb1.size))
      | (go_at_call 38; refine (HC.out _ _ _ hB2 hT).mono ?_; rintro e w3 ⟨ax, cx, rfl, O3, S3⟩; have hB3 := step_below (hB2.trans ((below_alloc6 _ _).mono hB2.size)) hB2.size S3; have k3 := S3.at_.c3; have k4 := S3.at_.c4; have k5 := S3.at_.c5; dsimp only at k3 k4 k5)
      | (go_at_call 39; refine (HFl.out _ _ _ hB2 hT _ _ S3.at_).mono ?_; rintro e w4 ⟨rfl, S4⟩; rw [HE.out] at S4; have hB4 := step_below hB3 hB2.size S4; have m4 := S4.at_.c4; have m5 := S4.at_.c5; dsimp only at m4 m5))
      go_quiet (fail)
      go_wp2
      go_ret3
      exact parse_bad pl 4 (belDraws hB4 _)
    · have hlt : decide ((s.i : Int) < (ts.length : Int)) = false := by simp; omega
      rw [if_neg (fun k => hi k.2)] at hlast
      rw [hlast, if_neg (by simpa using he)] at hans
      rw [hans]
      have d3 : ((s.err : Int) == 0) = true := d
      clear hlast hans HFE HFl i2
      cases hv : validE x ns.length with
      | false =>
        rw [hv] at HV
        rw [if_pos rfl]
        go_enter Tryz.func17, Tryz.ntmps17
        go_wp2_with (first
        | (go_at_call 37; refine HG.out.mono ?_; rintro e w1 ⟨rfl, hb1⟩)
        | (go_at_call 30; refine (HS.out _).mono ?_; rintro e w2 ⟨⟨ta, tc, rfl, hT, hcc⟩, hb2⟩; have hB2 := hb1.trans (hb2.mono hb1.size))
        | (go_at_call 38; refine (HC.out _ _ _ hB2 hT).mono ?_; rintro e w3 ⟨ax, cx, rfl, O3, S3⟩; have hB3 := step_below (hB2.trans ((below_alloc6 _ _).mono hB2.size)) hB2.size S3; have k3 := S3.at_.c3; have k4 := S3.at_.c4; have k5 := S3.at_.c5; dsimp only at k3 k4 k5)
            | (go_at_call 40; refine (HV.out _ _ _ _ O3).mono ?_; rintro e w4 ⟨rfl, hb4⟩; have hB4 := hB3.trans (hb4.mono hB3.size)))
        go_ret3
        exact parse_bad 0 3 hB4
      | true =>
        rw [hv] at HV
        rw [if_neg (by decide)]
        go_enter Tryz.func17, Tryz.ntmps17
        go_wp2_with (first
        | (go_at_call 37; refine HG.out.mono ?_; rintro e w1 ⟨rfl, hb1⟩)
        | (go_at_call 30; refine (HS.out _).mono ?_; rintro e w2 ⟨⟨ta, tc, rfl, hT, hcc⟩, hb2⟩; have hB2 := hb1.trans (hb2.mono hb1.size))
        | (go_at_call 38; refine (HC.out _ _ _ hB2 hT).mono ?_; rintro e w3 ⟨ax, cx, rfl, O3, S3⟩; have hB3 := step_below (hB2.trans ((below_alloc6 _ _).mono hB2.size)) hB2.size S3; have k3 := S3.at_.c3; have k4 := S3.at_.c4; have k5 := S3.at_.c5; dsimp only at k3 k4 k5)
            | (go_at_call 40; refine (HV.out _ _ _ _ O3).mono ?_; rintro e w4 ⟨rfl, hb4⟩; have hB4 := hB3.trans (hb4.mono hB3.size)))
        go_ret3
        exact ⟨⟨ax, cx, rfl, (O3.far hb4).base (by have := hB2.size; show w.heap.size ≤ w2.heap.size + 1; omega)⟩, hB4⟩
  · have d : ((s.err : Int) == 0) = false := by simp; omega
    rw [if_neg (fun k => he k.1)] at hlast
    rw [hlast, if_pos he] at hans
    rw [hans]
    clear hlast hans HFE HFl HV i2
    go_enter Tryz.func17, Tryz.ntmps17
    go_wp2_with (first
      | (go_at_call 37; refine HG.out.mono ?_; rintro e w1 ⟨rfl, hb1⟩)
      | (go_at_call 30; refine (HS.out _).mono ?_; rintro e w2 ⟨⟨ta, tc, rfl, hT, hcc⟩, hb2⟩; have hB2 := hb1.trans (hb2.mono hb1.size))
      | (go_at_call 38; refine (HC.out _ _ _ hB2 hT).mono ?_; rintro e w3 ⟨ax, cx, rfl, O3, S3⟩; have hB3 := step_below (hB2.trans ((below_alloc6 _ _).mono hB2.size)) hB2.size S3; have k3 := S3.at_.c3; have k4 := S3.at_.c4; have k5 := S3.at_.c5; dsimp only at k3 k4 k5))
    go_quiet (fail)
    go_wp2
    go_ret3
    exact parse_bad s.place s.err (belDraws hB3 _)
end Go.Proofs.YtdbahiepihkagaaGreatDoor
namespace Go.Proofs.YtdbahiepihkagaaGreatDoor
set_option maxRecDepth 100000
open Go.RowKit

theorem tmps39 (p q r v : Value) : #[p, q, r] ++ (Array.replicate 15 undef).setIfInBounds 3 v = #[p, q, r, undef, undef, undef, v, undef, undef, undef, undef, undef, undef, undef, undef, undef, undef, undef] := rfl
set_option maxHeartbeats 1000000 in
theorem catch_idle (pa pe pr : Addr) (w : World) :
    CallsD Tryz.prog 60 #[.pointer (some pa), .pointer (some pe), .pointer (some pr)] .returning w fun e u' w' => e = .returned (.tuple #[]) ∧ u' = .returning ∧ w' = w := by
  have hnil : ∀ w : World, (binOp BinOp.eql 20 .nilIface .nilIface).run Tryz.prog w = .ok (.bool true) w := fun _ => by kernel_rfl
  refine callsD_of_wpS Tryz.func60 rfl fun c₀ cs hu => ?_
  apply wpS_seq
  apply wpS_region
  simp [wpOpsS, go_sem, recoverD, hu, Tryz.ntmps60, Exit.thenS]
  rw [tmps39]
  refine wpS_of_wp ?_
  go_wp2
  cases c₀
  simp_all [bodyPostS, results, Tryz.results60]
set_option maxHeartbeats 2000000 in
theorem catch_fault (na ne : Nat) (pr : Addr) (a b x y : Int) (w : World) (ha : w.cell? ⟨na, 0, none⟩ = some (.int .i64 x)) (hb : w.cell? ⟨ne, 0, none⟩ = some (.int .i64 y)) (fa : w.frozen? ⟨na, 0, none⟩ = false) (fe : w.frozen? ⟨ne, 0, none⟩ = false) (la : na < w.heap.size) (le : ne < w.heap.size) (hne : na ≠ ne) :
    CallsD Tryz.prog 60 #[.pointer (some ⟨na, 0, none⟩), .pointer (some ⟨ne, 0, none⟩), .pointer (some pr)] (.panicking [{ v := .iface 101 (.agg #[.int .i64 a, .int .i64 b]), recovered := false }]) w fun e u' w' => e = .returned (.tuple #[]) ∧ u' = .panicking [{ v := .iface 101 (.agg #[.int .i64 a, .int .i64 b]), recovered := true }] ∧
      ∃ w1, Below w.heap.size w w1 ∧ w' = (w1.setCell ⟨na, 0, none⟩ (.int .i64 a)).setCell ⟨ne, 0, none⟩ (.int .i64 b) := by
  have hnil : ∀ (v : Value) (w : World), (binOp BinOp.eql 20 (.iface 101 v) .nilIface).run Tryz.prog w = .ok (.bool false) w := fun _ _ => by kernel_rfl
  have hasr : ∀ (v : Value) (w : World), (Instr.typeAssert (.iface 101 v) 20 101 true).run Tryz.prog w = .ok (.tuple #[v, .bool true]) w := fun _ _ => by kernel_rfl
  refine callsD_of_wpS Tryz.func60 rfl fun c₀ cs hu => ?_
  apply wpS_seq
  apply wpS_region
  simp [wpOpsS, go_sem, recoverD, hu, Tryz.ntmps60, Exit.thenS]
  rw [tmps39]
  refine wpS_of_wp ?_
  go_wp2
  obtain ⟨W1, hW1⟩ : ∃ W1, W1 = w.alloc (.cells #[.int .i64 a, .int .i64 b] 101) := ⟨_, rfl⟩
  have hbW : Below w.heap.size w W1 := by rw [hW1]; exact below_alloc6 _ _
  have c0 : W1.cell? ⟨w.heap.size, 0, none⟩ = some (.int .i64 a) := by rw [hW1]; exact World.cell?_alloc_new w _ _ 0
  have c1 : W1.cell? ⟨w.heap.size, 1, none⟩ = some (.int .i64 b) := by rw [hW1]; exact World.cell?_alloc_new w _ _ 1
  have ka : W1.cell? ⟨na, 0, none⟩ = some (.int .i64 x) := (hbW.cell (p := ⟨na, 0, none⟩) la).trans ha
  have kb : W1.cell? ⟨ne, 0, none⟩ = some (.int .i64 y) := (hbW.cell (p := ⟨ne, 0, none⟩) le).trans hb
  have ga : W1.frozen? ⟨na, 0, none⟩ = false := (hbW.frozen (p := ⟨na, 0, none⟩) la).trans fa
  have ge : W1.frozen? ⟨ne, 0, none⟩ = false := (hbW.frozen (p := ⟨ne, 0, none⟩) le).trans fe
  have n1 : na ≠ w.heap.size := by omega
  have n2 : ne ≠ w.heap.size := by omega
  rw [← hW1]
  clear hW1 ha hb fa fe
  generalize hws : w.heap.size = ws at *
  go_region
  go_wp2
  exact ⟨rfl, _, rfl, _, results_none rfl _ _ _, rfl, rfl, W1.drew, by rw [hws]; exact hbW.drew, rfl⟩
/-- the place and the error that the reader answers -/
noncomputable def Env.told (V : Env) : Nat × Nat := if V.last.err = 0 then (0, 0) else (V.last.place, V.last.err)

/-! ### The world in which a cursor's text is read -/
/-- behind w: the boxes of Read; behind those the scan; the cursor is set -/
def boxR (w : World) (pb : Nat) : World := ((w.alloc (.cells #[.pointer (some ⟨pb, 0, none⟩)] 99)).alloc (.cells #[.int .i64 0] 3)).alloc (.cells #[.int .i64 0] 26)
theorem boxR_below (w : World) (b : Nat) : Below w.heap.size w (boxR w b) := ((below_alloc6 w _).trans ((below_alloc6 _ _).mono (by simp))).trans ((below_alloc6 _ _).mono (by simp; omega))
theorem boxR_size (w : World) (b : Nat) : (boxR w b).heap.size = w.heap.size + 3 := by unfold boxR; simp
/-- what holds of the world in which the text is read: all is as it was but for the cursor's two cells and the boxes -/
structure Set8 (pb n0 : Nat) (w : World) (tx : Bytes) (ta : Option Addr) (ts : List Tok) (tc : Nat) (W : World) : Prop where
  grow : w.grownBy W (some pb)
  nb : n0 = w.heap.size
  lt : pb < w.heap.size
  big : n0 + 3 ≤ W.heap.size
  c0 : W.cell? ⟨pb, 0, none⟩ = some (.string (mkS tx))
  c1 : W.cell? ⟨pb, 1, none⟩ = some (.slice ta ts.length tc)
  cj : ∀ j, 2 ≤ j → W.cell? ⟨pb, j, none⟩ = w.cell? ⟨pb, j, none⟩
  fj : ∀ j, W.frozen? ⟨pb, j, none⟩ = w.frozen? ⟨pb, j, none⟩
  toks : TokAt W ta ts
  off : ∀ b, ta = some ⟨b, 0, none⟩ → b ≠ pb
  cap : ts.length ≤ tc
  k0 : W.cell? ⟨n0, 0, none⟩ = some (.pointer (some ⟨pb, 0, none⟩))
  k1 : W.cell? ⟨n0 + 1, 0, none⟩ = some (.int .i64 0)
  k2 : W.cell? ⟨n0 + 1 + 1, 0, none⟩ = some (.int .i64 0)
  z1 : W.frozen? ⟨n0 + 1, 0, none⟩ = false
  z2 : W.frozen? ⟨n0 + 1 + 1, 0, none⟩ = false
theorem Set8.draws {pb n0 : Nat} {w : World} {tx : Bytes} {ta : Option Addr} {ts : List Tok} {tc : Nat} {W : World} (h : Set8 pb n0 w tx ta ts tc W) (k : Nat) : Set8 pb n0 w tx ta ts tc (W.drewN k) := by
  have hb : Below W.heap.size W (W.drewN k) := belDraws (Below.refl _ _) k
  have hl : pb < W.heap.size := Nat.lt_of_lt_of_le h.lt h.grow.size
  have hg := h.big
  exact ⟨h.grow.trans ⟨hb.os, hb.tape, hb.output, hb.size, fun k hk _ => hb.block k hk⟩, h.nb, h.lt, Nat.le_trans h.big hb.size, (hb.cell (p := ⟨_, 0, none⟩) hl).trans h.c0, (hb.cell (p := ⟨_, 1, none⟩) hl).trans h.c1, fun j hj => (hb.cell (p := ⟨_, j, none⟩) hl).trans (h.cj j hj), fun j => (hb.frozen (p := ⟨_, j, none⟩) hl).trans (h.fj j), h.toks.below hb rfl, h.off, h.cap,
    (hb.cell (p := ⟨_, 0, none⟩) (by show n0 < _; omega)).trans h.k0, (hb.cell (p := ⟨_, 0, none⟩) (by show n0 + 1 < _; omega)).trans h.k1, (hb.cell (p := ⟨_, 0, none⟩) (by show n0 + 2 < _; omega)).trans h.k2, (hb.frozen (p := ⟨_, 0, none⟩) (by show n0 + 1 < _; omega)).trans h.z1, (hb.frozen (p := ⟨_, 0, none⟩) (by show n0 + 2 < _; omega)).trans h.z2⟩
theorem boxes_at (w : World) (pb : Nat) (w2 : World) (hb : Below (boxR w pb).heap.size (boxR w pb) w2) :
    w2.cell? ⟨w.heap.size, 0, none⟩ = some (.pointer (some ⟨pb, 0, none⟩)) ∧ w2.cell? ⟨w.heap.size + 1, 0, none⟩ = some (.int .i64 0) ∧ w2.cell? ⟨w.heap.size + 1 + 1, 0, none⟩ = some (.int .i64 0) ∧ w2.frozen? ⟨w.heap.size + 1, 0, none⟩ = false ∧ w2.frozen? ⟨w.heap.size + 1 + 1, 0, none⟩ = false := by
  have hs := boxR_size w pb
  have b0 : (boxR w pb).cell? ⟨w.heap.size, 0, none⟩ = some (.pointer (some ⟨pb, 0, none⟩)) := by unfold boxR; simp [go_sem]
  have b1 : (boxR w pb).cell? ⟨w.heap.size + 1, 0, none⟩ = some (.int .i64 0) := by unfold boxR; simp [go_sem]
  have b2 : (boxR w pb).cell? ⟨w.heap.size + 1 + 1, 0, none⟩ = some (.int .i64 0) := by unfold boxR; simp [go_sem]
  have y1 : (boxR w pb).frozen? ⟨w.heap.size + 1, 0, none⟩ = false := by unfold boxR; simp [go_sem]
  have y2 : (boxR w pb).frozen? ⟨w.heap.size + 1 + 1, 0, none⟩ = false := by unfold boxR; simp [go_sem]
  have m0 : w2.cell? ⟨w.heap.size, 0, none⟩ = _ := (hb.cell (p := ⟨_, 0, none⟩) (by show w.heap.size < _; omega)).trans b0
  have m1 : w2.cell? ⟨w.heap.size + 1, 0, none⟩ = _ := (hb.cell (p := ⟨_, 0, none⟩) (by show w.heap.size + 1 < _; omega)).trans b1
  have m2 : w2.cell? ⟨w.heap.size + 1 + 1, 0, none⟩ = _ := (hb.cell (p := ⟨_, 0, none⟩) (by show w.heap.size + 2 < _; omega)).trans b2
  have mz1 : w2.frozen? ⟨w.heap.size + 1, 0, none⟩ = _ := (hb.frozen (p := ⟨_, 0, none⟩) (by show w.heap.size + 1 < _; omega)).trans y1
  have mz2 : w2.frozen? ⟨w.heap.size + 1 + 1, 0, none⟩ = _ := (hb.frozen (p := ⟨_, 0, none⟩) (by show w.heap.size + 2 < _; omega)).trans y2
  exact ⟨m0, m1, m2, mz1, mz2⟩
/-- behind the scan, with its place and error in their boxes: the cursor is set -/
theorem set8_of (pb : Nat) (w : World) (tx : Bytes) (ta : Option Addr) (ts : List Tok) (tc : Nat) (w2 : World) (hlt : pb < w.heap.size) {x0 x1 : Value} (d0 : w.cell? ⟨pb, 0, none⟩ = some x0) (d1 : w.cell? ⟨pb, 1, none⟩ = some x1)
    (hb : Below (boxR w pb).heap.size (boxR w pb) w2) (hT : TokAt w2 ta ts) (hoff : ∀ b, ta = some ⟨b, 0, none⟩ → (boxR w pb).heap.size ≤ b) (hc : ts.length ≤ tc) :
    Set8 pb w.heap.size w tx ta ts tc ((((w2.setCell ⟨w.heap.size + 1, 0, none⟩ (.int .i64 0)).setCell ⟨w.heap.size + 1 + 1, 0, none⟩ (.int .i64 0)).setCell ⟨pb, 0, none⟩ (.string (mkS tx))).setCell ⟨pb, 1, none⟩ (.slice ta ts.length tc)) := by
  have hs := boxR_size w pb
  have hbs := hb.size
  have hlow := boxR_below w pb
  have hwb : Below w.heap.size w w2 := hlow.trans (hb.mono (by omega))
  obtain ⟨m0, m1, m2, mz1, mz2⟩ := boxes_at w pb w2 hb
  have pj : ∀ j, w2.cell? ⟨pb, j, none⟩ = w.cell? ⟨pb, j, none⟩ := fun j => hwb.cell (p := ⟨pb, j, none⟩) hlt
  have pf : ∀ j, w2.frozen? ⟨pb, j, none⟩ = w.frozen? ⟨pb, j, none⟩ := fun j => hwb.frozen (p := ⟨pb, j, none⟩) hlt
  have ne : ∀ k, pb ≠ w.heap.size + k := fun k => by omega
  have off : ∀ b, ta = some ⟨b, 0, none⟩ → b ≠ pb ∧ b ≠ w.heap.size + 1 ∧ b ≠ w.heap.size + 2 := fun b h => by
    have := hoff b h
    rw [hs] at this
    omega
  have so : ∀ (W : World) (b i b' i' : Nat) (v : Value), (b ≠ b' ∨ i ≠ i') → (W.setCell ⟨b, i, none⟩ v).cell? ⟨b', i', none⟩ = W.cell? ⟨b', i', none⟩ := fun W b i b' i' v h => set_other (by simp; omega)
  refine ⟨⟨?_, ?_, ?_, ?_, fun k hk hne => ?_⟩, rfl, hlt, ?_, ?_, ?_, fun j hj => ?_, fun j => ?_, ?_, fun b h => (off b h).1, hc, ?_, ?_, ?_, ?_, ?_⟩
  · exact hwb.os
  · exact hwb.tape
  · exact hwb.output
  · simp; exact hwb.size
  · have h1 : k ≠ pb := fun e => hne (by rw [e])
    rw [Below.heap_setCell _ _ _ _ (show k ≠ pb from h1), Below.heap_setCell _ _ _ _ (show k ≠ pb from h1), Below.heap_setCell _ _ _ _ (show k ≠ w.heap.size + 2 by omega), Below.heap_setCell _ _ _ _ (show k ≠ w.heap.size + 1 by omega)]
    exact hwb.block k hk
  · simp; omega
  · rw [so _ _ _ _ _ _ (.inr (by decide))]
    exact set_same ((so _ _ _ _ _ _ (.inl (ne 2).symm)).trans ((so _ _ _ _ _ _ (.inl (ne 1).symm)).trans ((pj 0).trans d0)))
  · exact set_same ((so _ _ _ _ _ _ (.inr (by decide))).trans ((so _ _ _ _ _ _ (.inl (ne 2).symm)).trans ((so _ _ _ _ _ _ (.inl (ne 1).symm)).trans ((pj 1).trans d1))))
  · rw [so _ _ _ _ _ _ (.inr (by omega)), so _ _ _ _ _ _ (.inr (by omega)), so _ _ _ _ _ _ (.inl (ne 2).symm), so _ _ _ _ _ _ (.inl (ne 1).symm)]
    exact pj j
  · simp only [World.frozen?_setCell]
    exact pf j
  · refine ⟨hT.size, fun h0 => ?_⟩
    obtain ⟨b, hb2, hl, hcc⟩ := hT.row h0
    obtain ⟨o1, o2, o3⟩ := off b hb2
    have hcell : ∀ i, ((((w2.setCell ⟨w.heap.size + 1, 0, none⟩ (.int .i64 0)).setCell ⟨w.heap.size + 1 + 1, 0, none⟩ (.int .i64 0)).setCell ⟨pb, 0, none⟩ (.string (mkS tx))).setCell ⟨pb, 1, none⟩ (.slice ta ts.length tc)).cell? ⟨b, i, none⟩ = w2.cell? ⟨b, i, none⟩ := fun i => by
      rw [so _ _ _ _ _ _ (.inl (Ne.symm o1)), so _ _ _ _ _ _ (.inl (Ne.symm o1)), so _ _ _ _ _ _ (.inl (Ne.symm o3)), so _ _ _ _ _ _ (.inl (Ne.symm o2))]
    exact ⟨b, hb2, by simpa using hl, fun i hi => ⟨(hcell _).trans (hcc i hi).1, (hcell _).trans (hcc i hi).2.1, (hcell _).trans (hcc i hi).2.2.1, (hcell _).trans (hcc i hi).2.2.2⟩⟩
  · rw [so _ _ _ _ _ _ (.inl (by omega)), so _ _ _ _ _ _ (.inl (by omega)), so _ _ _ _ _ _ (.inl (by omega)), so _ _ _ _ _ _ (.inl (by omega))]
    exact m0
  · rw [so _ _ _ _ _ _ (.inl (by omega)), so _ _ _ _ _ _ (.inl (by omega)), so _ _ _ _ _ _ (.inl (by omega))]
    exact set_same m1
  · rw [so _ _ _ _ _ _ (.inl (by omega)), so _ _ _ _ _ _ (.inl (by omega))]
    exact set_same ((so _ _ _ _ _ _ (.inl (by omega))).trans m2)
  · simp only [World.frozen?_setCell]
    exact mz1
  · simp only [World.frozen?_setCell]
    exact mz2
end Go.Proofs.YtdbahiepihkagaaGreatDoor
