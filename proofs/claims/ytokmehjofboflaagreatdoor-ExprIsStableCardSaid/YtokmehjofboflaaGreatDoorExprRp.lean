/- What Parse of package expr answers. -/
import Derived.Test.YtokmehjofboflaaGreatDoorExprRw
import Derived.Test.YtokmehjofboflaaGreatDoorTermP3
namespace Go.Proofs.YtokmehjofboflaaGreatDoor
set_option maxRecDepth 100000
open Go.RowKit

/-- the world behind the making of the reader's struct, and behind the making of whole's boxes -/
def newR (w : World) (T : Bytes) (na : Option Addr) (n nc : Nat) (a : Option Addr) (m c : Nat) : World := w.alloc (.cells #[.string (mkS T), .slice a m c, .slice na n nc, .slice none 0 0] 43)
def newW (w : World) (b : Nat) : World := ((w.alloc (.cells #[.pointer (some ⟨b, 0, none⟩)] 71)).alloc (.cells #[.int .i64 0] 3)).alloc (.cells #[.int .i64 0] 26)
def supF (w : World) (T : Bytes) (na : Option Addr) (nc : Nat) (ns : List Bytes) (a : Option Addr) (c : Nat) (ts : List Tok) : Sup := ⟨w, newW (newR w T na ns.length nc a ts.length c) w.heap.size, na, nc, a, c, T, ns, ts⟩
theorem newW_below (w : World) (b : Nat) : Below w.heap.size w (newW w b) := ((below_alloc6 w _).trans ((below_alloc6 _ _).mono (by simp))).trans ((below_alloc6 _ _).mono (by simp; omega))
theorem newR_size (w : World) (T : Bytes) (na : Option Addr) (n nc : Nat) (a : Option Addr) (m c : Nat) : (newR w T na n nc a m c).heap.size = w.heap.size + 1 := by unfold newR; simp
theorem newW_size (w : World) (b : Nat) : (newW w b).heap.size = w.heap.size + 3 := by unfold newW; simp
theorem sup_okP {w w1 : World} {na a : Option Addr} {nc c : Nat} {T : Bytes} {ns : List Bytes} {ts : List Tok} (hN : NamesAt w na ns) (hb : Below w.heap.size w w1) (hT : TokAt w1 a ts) (hW : Wd w) (hg : goodF ns = true) (hs : scanB T = .inr ts) (hc : ns.length ≤ nc) : (supF w1 T na nc ns a c ts).Ok where
  names := hN.below hb rfl
  toks := hT
  words := hW.below hb (Nat.le_refl _)
  cap := hc
  lt := by show w1.heap.size < (newW _ _).heap.size; rw [newW_size, newR_size]; omega
  ends := fun _ hk => ⟨Nat.le_of_lt (stands hs hk).lt, (stands hs hk).le⟩
  good := hg
  few := (scan_run hs).2.1
  short := (scan_run hs).2.2
  nums := fun _ hk => scan_num hs hk
theorem rat_new (w : World) (T : Bytes) (na : Option Addr) (nc : Nat) (ns : List Bytes) (a : Option Addr) (c : Nat) (ts : List Tok) (hT : TokAt w a ts) (hc : ts.length ≤ c) : RAt (supF w T na nc ns a c ts) (newW (newR w T na ns.length nc a ts.length c) w.heap.size) ⟨0, 0, 0⟩ [] := by
  have hl : w.heap.size < (newR w T na ns.length nc a ts.length c).heap.size := by rw [newR_size]; omega
  have hb := newW_below (newR w T na ns.length nc a ts.length c) w.heap.size
  have hr : Below w.heap.size w (newR w T na ns.length nc a ts.length c) := below_alloc6 _ _
  have hc' : ∀ i, (newW (newR w T na ns.length nc a ts.length c) w.heap.size).cell? ⟨w.heap.size, i, none⟩ = (#[.string (mkS T), .slice a ts.length c, .slice na ns.length nc, .slice none 0 0] : Array Value)[i]? := fun i => (hb.cell (p := ⟨_, i, none⟩) hl).trans (boxed6 _ _ _ _)
  have hf : ∀ i, (newW (newR w T na ns.length nc a ts.length c) w.heap.size).frozen? ⟨w.heap.size, i, none⟩ = false := fun i => (hb.frozen (p := ⟨_, i, none⟩) hl).trans (World.frozen?_alloc_at _ _ _ _ rfl)
  refine ⟨World.grownBy.refl _ _, hr.trans (hb.mono (Nat.le_of_lt hl)), by show w.heap.size < (newW _ _).heap.size; rw [newW_size, newR_size]; omega, rfl, hc' 0, ⟨a, c, hc' 1, hc, fun h => ?_⟩, hc' 2, ⟨_, hc' 3, OwnT.none6 _ _⟩, hf 1, hf 3, Nat.zero_le _⟩
  obtain ⟨b, hb, _⟩ := hT.row h
  exact ⟨b, hb, by rw [hb]; rfl⟩
set_option maxHeartbeats 4000000 in
theorem parseP_any (T : Bytes) (na : Option Addr) (nc : Nat) (ns : List Bytes) (w : World) (hN : NamesAt w na ns) (hc : ns.length ≤ nc) (hn : ns.length ≤ 10) (hT : Fits6 T ns) (hW : Wd w) :
    Calls Tryz.prog 11 #[.string (mkS T), .slice na ns.length nc] w (ParseOut (parseF T ns) w) := by
  have HG := Lib.hid (goodP_any na nc ns w hN hc (by omega))
  cases hg : goodF ns with
  | false =>
    have hp : parseF T ns = ([], 0, 7) := by unfold parseF; rw [if_pos hg]
    rw [hp]
    rw [hg] at HG
    clear hp hN hc hn hT hW
    go_enter Tryz.func11, Tryz.ntmps11
    go_wp2_with (go_at_call 19; refine HG.out.mono ?_; rintro e w1 ⟨rfl, rfl⟩)
    go_ret3
    exact parse_bad 0 7 (Below.refl _ _)
  | true =>
  rw [hg] at HG
  have hl : (mkS T).data.toList = T := mkS_list T
  cases hs : scanB T with
  | inl x =>
    obtain ⟨p, f⟩ := x
    have hp : parseF T ns = ([], p, f) := by unfold parseF; rw [if_neg (by rw [hg]; decide), hs]
    have hf : ((f : Int) == 0) = false := by have := scan_errs hs; simp; omega
    have hf2 : ((f : Int) != 0) = true := by have := scan_errs hs; simp; omega
    have HS := Lib.hid (fun W => scan_bad_at (s := mkS T) (p := p) (f := f) (by rw [hl]; exact hs) W)
    rw [hp]
    clear hp hN hc hn hT hl hs hg hW
    go_enter Tryz.func11, Tryz.ntmps11
    go_wp2_with (first | (go_at_call 19; refine HG.out.mono ?_; rintro e w1 ⟨rfl, rfl⟩) | (go_at_call 20; refine (HS.out _).mono ?_; rintro e w2 ⟨rfl, hb2⟩))
    go_ret3
    exact parse_bad p f hb2
  | inr ts =>
  have hp : parseF T ns = (envF T ts ns).answer := by unfold parseF; rw [if_neg (by rw [hg]; decide), hs]
  have HS := Lib.hid (fun W => scan_ok_at (s := mkS T) (ts := ts) (by rw [hl]; exact hs) W)
  have HWh : Hid (∀ (w1 : World) (a : Option Addr) (c : Nat), Below w.heap.size w w1 → TokAt w1 a ts → ts.length ≤ c → Calls Tryz.prog 21 #[.pointer (some ⟨w1.heap.size, 0, none⟩)] (newR w1 T na ns.length nc a ts.length c) fun e w' => e = .returned (.tuple #[.int .i64 ((envF T ts ns).told.1 : Int), .int .i64 ((envF T ts ns).told.2 : Int)]) ∧ ((envF T ts ns).last.err = 0 → ∃ v, w'.cell? ⟨w1.heap.size, 3, none⟩ = some v ∧ OwnT w1.heap.size w' v (envF T ts ns).out.1) ∧ Below w1.heap.size w1 w') :=
    Lib.hid (fun w1 a c hb hT hcc => by
      have hU := sup_okP (c := c) hN hb hT hW hg hs hc
      refine (wholeQ_any (supF w1 T na nc ns a c ts) hU (newR w1 T na ns.length nc a ts.length c) rfl (by show w1.heap.size < _; rw [newR_size]; omega) (rat_new w1 T na nc ns a c ts hT hcc)).mono ?_
      rintro e w' ⟨he, h1, h2⟩
      refine ⟨he, fun h0 => ?_, h2⟩
      obtain ⟨v, d1, d2⟩ := h1 h0
      exact ⟨v, d1, d2.base (Nat.le_of_lt hU.lt)⟩)
  have hfit := out_terms (ns := ns) hs (good_few hg)
  have hlen := hT ts hs
  have hns := good_few hg
  have HV : Hid (∀ (a : Option Addr) (c B : Nat) (W : World), OwnT B W (.slice a (envF T ts ns).out.1.length c) (envF T ts ns).out.1 → Calls Tryz.prog 22 #[.slice a (envF T ts ns).out.1.length c, .int .i64 (ns.length : Int)] W fun e w' => e = .returned (.bool (validE (envF T ts ns).out.1 ns.length)) ∧ Below W.heap.size W w') :=
    Lib.hid (fun a c B W h => validP_any a c _ _ W (h.links (i64_terms hfit)) (by omega) (by unfold I64; omega))
  have hans : parseF T ns = if (envF T ts ns).last.err ≠ 0 then ([], (envF T ts ns).last.place, (envF T ts ns).last.err) else if validE (envF T ts ns).out.1 ns.length = false then ([], 0, 3) else ((envF T ts ns).out.1, 0, 0) := by
    rw [hp]
    rfl
  have htold : (envF T ts ns).told = if (envF T ts ns).last.err = 0 then (0, 0) else ((envF T ts ns).last.place, (envF T ts ns).last.err) := rfl
  generalize (envF T ts ns).told = tl at *
  generalize (envF T ts ns).last = L at *
  clear hp hN hc hn hT hl hs hg hfit hlen hW
  generalize (envF T ts ns).out = o at *
  obtain ⟨x, s⟩ := o
  dsimp only at *
  unfold newR at HWh
  generalize mkS T = X at *
  by_cases he : L.err = 0
  case neg =>
    rw [if_neg he] at htold
    rw [if_pos he] at hans
    rw [hans]
    subst htold
    have d : ((L.err : Int) != 0) = true := by simp; omega
    have d2 : ((L.err : Int) == 0) = false := by simp; omega
    clear hans HV
    go_enter Tryz.func11, Tryz.ntmps11
    go_wp2_with (first
      | (go_at_call 19; refine HG.out.mono ?_; rintro e w1 ⟨rfl, rfl⟩)
      | (go_at_call 20; refine (HS.out _).mono ?_; rintro e w2 ⟨⟨ta, tc, rfl, hT, hcc⟩, hb2⟩)
      | (go_at_call 21; refine (HWh.out _ _ _ hb2 hT hcc).mono ?_; rintro e w3 ⟨rfl, _, hb3⟩))
    go_ret3
    exact parse_bad _ _ (hb2.trans (hb3.mono hb2.size))
  rw [if_pos he] at htold
  rw [if_neg (by simpa using he)] at hans
  subst htold
  cases hv : validE x ns.length with
  | false =>
    rw [if_pos hv] at hans
    rw [hans]
    rw [hv] at HV
    clear hans
    go_enter Tryz.func11, Tryz.ntmps11
    go_wp2_with (first
      | (go_at_call 19; refine HG.out.mono ?_; rintro e w1 ⟨rfl, rfl⟩)
      | (go_at_call 20; refine (HS.out _).mono ?_; rintro e w2 ⟨⟨ta, tc, rfl, hT, hcc⟩, hb2⟩)
      | (go_at_call 21; refine (HWh.out _ _ _ hb2 hT hcc).mono ?_; rintro e w3 ⟨rfl, hr, hb3⟩; obtain ⟨v, d1, d2⟩ := hr he; obtain ⟨va, vc, rfl, _, _⟩ := d2.shape)
      | (go_at_call 22; refine (HV.out _ _ _ _ d2).mono ?_; rintro e w4 ⟨rfl, hb4⟩))
    go_ret3
    exact parse_bad 0 3 ((hb2.trans (hb3.mono hb2.size)).trans (hb4.mono (Nat.le_trans hb2.size hb3.size)))
  | true =>
    rw [if_neg (by rw [hv]; decide)] at hans
    rw [hans]
    rw [hv] at HV
    clear hans
    go_enter Tryz.func11, Tryz.ntmps11
    go_wp2_with (first
      | (go_at_call 19; refine HG.out.mono ?_; rintro e w1 ⟨rfl, rfl⟩)
      | (go_at_call 20; refine (HS.out _).mono ?_; rintro e w2 ⟨⟨ta, tc, rfl, hT, hcc⟩, hb2⟩)
      | (go_at_call 21; refine (HWh.out _ _ _ hb2 hT hcc).mono ?_; rintro e w3 ⟨rfl, hr, hb3⟩; obtain ⟨v, d1, d2⟩ := hr he; obtain ⟨va, vc, rfl, _, _⟩ := d2.shape)
      | (go_at_call 22; refine (HV.out _ _ _ _ d2).mono ?_; rintro e w4 ⟨rfl, hb4⟩; have d4 := (hb4.cell (p := ⟨w2.heap.size, 3, none⟩) (cell_lt d1)).trans d1))
    go_ret3
    exact ⟨⟨va, vc, rfl, (d2.far hb4).base hb2.size⟩, (hb2.trans (hb3.mono hb2.size)).trans (hb4.mono (Nat.le_trans hb2.size hb3.size))⟩
end Go.Proofs.YtokmehjofboflaaGreatDoor
