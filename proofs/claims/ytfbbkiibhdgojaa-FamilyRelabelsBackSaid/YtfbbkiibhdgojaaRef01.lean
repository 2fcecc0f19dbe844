/- What the functions of selfstabref01 and selfstabmade on graphs answer. -/
import Derived.Test.YtfbbkiibhdgojaaMath1
namespace Go.Proofs.Ytfbbkiibhdgojaa
open Go.RowKit

set_option maxHeartbeats 400000 in
theorem in_any (v lo hi : Int) (w : World) :
    Calls Try.prog 24 #[.int .i64 v, .int .i64 lo, .int .i64 hi] w fun e w' => e = .returned (.bool (inB v lo hi)) ∧ w = w' := by
  by_cases h1 : lo ≤ v
  all_goals by_cases h2 : v ≤ hi
  all_goals
    go_enter Try.func24, Try.ntmps24
    go_wp2
    go_ret
    exact ⟨by simp [inB, h1, h2], rfl⟩

set_option maxHeartbeats 400000 in
theorem port_any (ia pa : Option Addr) (il ic pl pc : Nat) (G : Gr) (v : Nat) (u : Int) (w : World) (hG : GraphAt w ia il pa pl G) (hv : v < pl) :
    Calls Try.prog 26 #[.agg #[.slice ia il ic, .slice pa pl pc], .int .i64 v, .int .i64 u] w fun e w' => e = .returned (.int .i64 (portF (rowA G.ps v) u)) ∧ Below w.heap.size w w' := by
  have hpl := hG.pl
  have hm : pl ≤ maxLen := hpl ▸ hG.ports.size
  unfold maxLen at hm
  obtain ⟨pb, po, rfl, hpb, hrow⟩ := hG.ports.row (by omega)
  obtain ⟨la, lc, hcell, hL⟩ := hrow v (by omega)
  have hlm := hL.size
  unfold maxLen at hlm
  generalize rowA G.ps v = xs at *
  clear hrow hpl hG
  go_enter Try.func26, Try.ntmps26
  go_wp2
  go_loop [7] (fun t => ∃ k : Nat, k ≤ xs.length ∧ t = .int .i64 k ∧ ∀ j, j < k → toA xs j ≠ u) (fun t => xs.length - (intOf t).toNat)
  case atStart => exact ⟨0, Nat.zero_le _, rfl, fun j hj => absurd hj (by omega)⟩
  case round =>
    obtain ⟨k, hk, rfl, hn⟩ := hrel
    by_cases hlt : k < xs.length
    · obtain ⟨lb, lo, rfl, hlb, hc⟩ := hL.row (by omega)
      have hck := (hc k hlt).1
      clear hc hL
      have Hn := Lib.hid hn
      clear hn
      by_cases he : toA xs k = u
      · have h0 : (toA xs k == u) = true := by simpa using he
        have Hp := Lib.hid (portF_found hlt he Hn.out)
        clear he
        go_wp2
        go_ret
        exact ⟨ret_int Hp.out.symm, (Below.refl _ _).alloc (Nat.le_refl _) _⟩
      · have h0 : (toA xs k == u) = false := by simpa using he
        have He := Lib.hid he
        clear he
        go_wp2
        go_round
        case rel => exact ⟨k + 1, by omega, by go_num, fun j hj => by
          rcases Nat.lt_or_ge j k with h | h
          · exact Hn.out j h
          · rw [show j = k by omega]; exact He.out⟩
        case measure => simp [intOf]; omega
    · have Hp := Lib.hid (portF_none (xs := xs) (u := u) (fun j hj => hn j (by omega)))
      clear hn
      go_wp2
      go_ret
      exact ⟨ret_int Hp.out.symm, (Below.refl _ _).alloc (Nat.le_refl _) _⟩

set_option maxHeartbeats 1000000 in
theorem linksValid_any (la : Option Addr) (lc : Nat) (xs : List (Int × Int)) (v n : Int) (w : World) (hL : LinksAt w la xs) (hn0 : 0 ≤ n) (hn1 : n ≤ 9223372036854775807) :
    Calls Try.prog 25 #[.slice la xs.length lc, .int .i64 v, .int .i64 n] w fun e w' => e = .returned (.bool (linksOkB xs v n)) ∧ Below w.heap.size w w' := by
  have hlm := hL.size
  unfold maxLen at hlm
  go_enter Try.func25, Try.ntmps25
  go_wp2
  go_loopw [7] (fun t wr => ∃ k : Nat, k ≤ xs.length ∧ t = .int .i64 k ∧ (∀ j, j < k → LinkOk xs v n j) ∧ Below w.heap.size w wr) (fun t _ => xs.length - (intOf t).toNat)
  case atStart => exact ⟨0, Nat.zero_le _, rfl, fun j hj => absurd hj (by omega), Below.refl _ _⟩
  case round =>
    obtain ⟨k, hk, rfl, hn, hbel⟩ := hrel
    have Hn := Lib.hid hn
    clear hn
    by_cases hlt : k < xs.length
    · obtain ⟨lb, lo, rfl, hlb, hc⟩ := (hL.below hbel).row (by omega)
      have hck1 := (hc k hlt).1
      have hck2 := (hc k hlt).2
      by_cases hin : inB (toA xs k) 0 (n - 1) = true
      · by_cases hne : toA xs k = v
        · have hv : (toA xs k == v) = true := by simpa using hne
          have Hf := Lib.hid (linksOkB_mkF (xs := xs) (v := v) (n := n) fun h => (h k hlt).2.1 hne)
          clear hne hc
          go_wp2_with (go_at_call 24; refine (in_any _ _ _ _).mono ?_; rintro e w' ⟨rfl, rfl⟩)
          go_ret
          exact ⟨ret_bool Hf.out.symm, hbel⟩
        · have hv : (toA xs k == v) = false := by simpa using hne
          have Hne := Lib.hid hne
          clear hne
          by_cases hwt : inB (wtA xs k) 1 15 = true
          · have Hc := Lib.hid hc
            clear hc
            go_wp2_with (go_at_call 24; refine (in_any _ _ _ _).mono ?_; rintro e w' ⟨rfl, rfl⟩)
            have Hck := Lib.hid hck1
            clear hck1 hck2
            obtain ⟨wo, rfl⟩ : ∃ wo : World, wo = wr := ⟨_, rfl⟩
            go_loopw [8] (fun t wr => ∃ m : Nat, m ≤ k ∧ t = .int .i64 m ∧ (∀ j, j < m → toA xs j ≠ toA xs k) ∧ Below w.heap.size w wr ∧ Below wo.heap.size wo wr) (fun t _ => k - (intOf t).toNat)
            case atStart => exact ⟨0, Nat.zero_le _, rfl, fun j hj => absurd hj (by omega), hbel, Below.refl _ _⟩
            case round =>
              obtain ⟨m, hm, rfl, hnm, hbel1, hbel2⟩ := hrel
              have Hnm := Lib.hid hnm
              clear hnm
              by_cases hmk : m < k
              · have hcm := (hbel2.cell (p := ⟨lb, lo + m * 2, none⟩) hlb).trans (Hc.out m (by omega)).1
                have hck := (hbel2.cell (p := ⟨lb, lo + k * 2, none⟩) hlb).trans Hck.out
                by_cases he : toA xs m = toA xs k
                · have h0 : (toA xs m == toA xs k) = true := by simpa using he
                  have Hf := Lib.hid (linksOkB_mkF (xs := xs) (v := v) (n := n) fun h => (h k hlt).2.2.2 m hmk he)
                  clear he
                  go_wp2
                  go_quiet (fail)
                  go_wp2
                  go_ret
                  exact ⟨ret_bool Hf.out.symm, belDraws hbel1 _⟩
                · have h0 : (toA xs m == toA xs k) = false := by simpa using he
                  have He := Lib.hid he
                  clear he
                  go_wp2
                  go_quiet (fail)
                  go_wp2
                  go_roundw
                  case rel => exact ⟨m + 1, by omega, by go_num, fun j hj => by
                    rcases Nat.lt_or_ge j m with h | h
                    · exact Hnm.out j h
                    · rw [show j = m by omega]; exact He.out, belDraws hbel1 _, belDraws hbel2 _⟩
                  case measure => simp [intOf]; omega
              · go_wp2
                go_roundw
                case rel => exact ⟨k + 1, by omega, by go_num, fun j hj => by
                  rcases Nat.lt_or_ge j k with h | h
                  · exact Hn.out j h
                  · rw [show j = k by omega]
                    exact ⟨inB_true hin, Hne.out, inB_true hwt, fun i hi => Hnm.out i (by omega)⟩, hbel1⟩
                case measure => simp [intOf]; omega
          · have hwt : inB (wtA xs k) 1 15 = false := by simpa using hwt
            have Hf := Lib.hid (linksOkB_mkF (xs := xs) (v := v) (n := n) fun h => inB_false hwt (h k hlt).2.2.1)
            clear hc
            go_wp2_with (go_at_call 24; refine (in_any _ _ _ _).mono ?_; rintro e w' ⟨rfl, rfl⟩)
            go_ret
            exact ⟨ret_bool Hf.out.symm, hbel⟩
      · have hin : inB (toA xs k) 0 (n - 1) = false := by simpa using hin
        have Hf := Lib.hid (linksOkB_mkF (xs := xs) (v := v) (n := n) fun h => inB_false hin (h k hlt).1)
        clear hc
        go_wp2_with (go_at_call 24; refine (in_any _ _ _ _).mono ?_; rintro e w' ⟨rfl, rfl⟩)
        go_ret
        exact ⟨ret_bool Hf.out.symm, hbel⟩
    · have Hf := Lib.hid (linksOkB_mk (xs := xs) (v := v) (n := n) fun j hj => Hn.out j (by omega))
      go_wp2
      go_ret
      exact ⟨ret_bool Hf.out.symm, hbel⟩

def lightB (G : Gr) : Bool := decide (G.ids.length ≤ 30 ∧ G.ps.length ≤ 30 ∧ ∀ v, v < G.ps.length → (rowA G.ps v).length ≤ 30)
theorem lightB_iff {G : Gr} : lightB G = true ↔ G.ids.length ≤ 30 ∧ G.ps.length ≤ 30 ∧ ∀ v, v < G.ps.length → (rowA G.ps v).length ≤ 30 := by simp [lightB]
theorem lightB_mkF {G : Gr} (h : ¬ (G.ids.length ≤ 30 ∧ G.ps.length ≤ 30 ∧ ∀ v, v < G.ps.length → (rowA G.ps v).length ≤ 30)) : lightB G = false := by
  unfold lightB
  exact decide_eq_false h

/-- the box of a graph, and the graph, in a later world -/
theorem boxed {w w' : World} {C : Array Value} {t : TypeId} (h : Below (w.heap.size + 1) (w.alloc (.cells C t)) w') (i : Nat) : w'.cell? ⟨w.heap.size, i, none⟩ = C[i]? :=
  (h.cell (p := ⟨w.heap.size, i, none⟩) (Nat.lt_succ_self _)).trans (World.cell?_alloc_new w C t i)
theorem belBox {w w' : World} {o : Obj} (h : Below (w.heap.size + 1) (w.alloc o) w') : Below w.heap.size w w' :=
  (((Below.refl _ _).alloc (Nat.le_refl _) o).trans (h.mono (Nat.le_succ _)))

set_option maxHeartbeats 400000 in
theorem light_any (ia pa : Option Addr) (il ic pl pc : Nat) (G : Gr) (w : World) (hG : GraphAt w ia il pa pl G) :
    Calls Try.prog 5 #[.agg #[.slice ia il ic, .slice pa pl pc]] w fun e w' => e = .returned (.bool (lightB G)) ∧ Below w.heap.size w w' := by
  have hil := hG.il
  have hpl := hG.pl
  by_cases h1 : 30 < il
  · have Hf := Lib.hid (lightB_mkF (G := G) fun h => by omega)
    clear hG hil hpl
    go_enter Try.func5, Try.ntmps5
    go_wp2
    go_ret
    exact ⟨ret_bool Hf.out.symm, (Below.refl _ _).alloc (Nat.le_refl _) _⟩
  by_cases h2 : 30 < pl
  · have Hf := Lib.hid (lightB_mkF (G := G) fun h => by omega)
    clear hG hil hpl
    go_enter Try.func5, Try.ntmps5
    go_wp2
    go_ret
    exact ⟨ret_bool Hf.out.symm, (Below.refl _ _).alloc (Nat.le_refl _) _⟩
  have Hpl := Lib.hid hpl
  have Hil := Lib.hid hil
  clear hpl hil
  go_enter Try.func5, Try.ntmps5
  go_wp2
  go_loop [3] (fun t => ∃ k : Nat, k ≤ pl ∧ t = .int .i64 k ∧ (∀ j, j < k → (rowA G.ps j).length ≤ 30)) (fun t => pl - (intOf t).toNat)
  case atStart => exact ⟨0, Nat.zero_le _, rfl, fun j hj => absurd hj (by omega)⟩
  case round =>
    obtain ⟨k, hk, rfl, hn⟩ := hrel
    have Hn := Lib.hid hn
    clear hn
    by_cases hlt : k < pl
    · obtain ⟨pb, po, rfl, hpb, hrow⟩ := hG.ports.row (by have := Hpl.out; omega)
      obtain ⟨la, lc, hcell, hL⟩ := hrow k (by have := Hpl.out; omega)
      clear hrow
      by_cases h3 : 30 < (rowA G.ps k).length
      · have Hf := Lib.hid (lightB_mkF (G := G) fun h => by have := h.2.2 k (by have := Hpl.out; omega); omega)
        go_wp2
        go_ret
        exact ⟨ret_bool Hf.out.symm, (Below.refl _ _).alloc (Nat.le_refl _) _⟩
      · go_wp2
        go_round
        case rel => exact ⟨k + 1, by omega, by go_num, fun j hj => by
          rcases Nat.lt_or_ge j k with h | h
          · exact Hn.out j h
          · rw [show j = k by omega]; omega⟩
        case measure => simp [intOf]; omega
    · have Hf := Lib.hid (lightB_iff (G := G).2 ⟨by have := Hil.out; omega, by have := Hpl.out; omega, fun v hv => Hn.out v (by have := Hpl.out; omega)⟩)
      go_wp2
      go_ret
      exact ⟨ret_bool Hf.out.symm, (Below.refl _ _).alloc (Nat.le_refl _) _⟩

end Go.Proofs.Ytfbbkiibhdgojaa
