/- What the functions of package graph answer, third part: agree. -/
import Derived.Test.YtfbbkiibhdgojaaGraph2
namespace Go.Proofs.Ytfbbkiibhdgojaa
open Go.RowKit

def zeros576 : Array Value := Array.replicate 576 (.int .u8 0)
theorem zeros576_at {j : Nat} (h : j < 576) : zeros576[j]? = some (.int .u8 0) := by simp [zeros576, h]
theorem zeroTable (w : World) : (zeroValue 62).run Try.prog w = .ok (.agg zeros576) w := by kernel_rfl

/-- the weight of the last of the first i links that leads to b, or 0 -/
def wtab (xs : List (Int × Int)) : Nat → Int → Int
  | 0, _ => 0
  | i + 1, b => if toA xs i = b then wtA xs i else wtab xs i b

theorem wtab_found {xs : List (Int × Int)} {b : Int} {k : Nat} (h : toA xs k = b) : ∀ n, k < n → (∀ j, j < n → j ≠ k → toA xs j ≠ b) → wtab xs n b = wtA xs k
  | 0, hk, _ => absurd hk (by omega)
  | n + 1, hk, hd => by
    unfold wtab
    by_cases e : n = k
    · rw [e, if_pos h]
    · rw [if_neg (hd n (by omega) e)]
      exact wtab_found h n (by omega) fun j hj => hd j (by omega)
theorem wtab_none {xs : List (Int × Int)} {b : Int} : ∀ n, (∀ j, j < n → toA xs j ≠ b) → wtab xs n b = 0
  | 0, _ => rfl
  | n + 1, hd => by
    unfold wtab
    rw [if_neg (hd n (by omega))]
    exact wtab_none n fun j hj => hd j (by omega)

theorem mate_iff {G : Gr} {v i d : Nat} (hl : LinksOk (rowA G.ps d) d G.ps.length) (hd : toA (rowA G.ps v) i = d) (hw : 1 ≤ wtA (rowA G.ps v) i) :
    MateOk G v i ↔ wtab (rowA G.ps d) (rowA G.ps d).length v = wtA (rowA G.ps v) i := by
  unfold MateOk
  rw [hd, Int.toNat_natCast]
  rcases portF_cases (rowA G.ps d) v with ⟨hp, hno⟩ | ⟨k, hk, hp, hto, _⟩
  · rw [hp, wtab_none _ hno]
    constructor
    · intro h; omega
    · intro h; omega
  · rw [hp, Int.toNat_natCast, wtab_found hto _ hk (fun j hj hjk e => by
      rcases Nat.lt_or_ge j k with h | h
      · exact (hl k hk).2.2.2 j h (by rw [e, hto])
      · exact (hl j hj).2.2.2 k (by omega) (by rw [e, hto]))]
    constructor
    · exact fun h => h.2
    · exact fun h => ⟨by omega, h⟩

open Classical in
noncomputable def matesOkB (G : Gr) : Bool := decide (∀ v, v < G.ps.length → ∀ i, i < (rowA G.ps v).length → MateOk G v i)
theorem matesOkB_mk {G : Gr} (h : ∀ v, v < G.ps.length → ∀ i, i < (rowA G.ps v).length → MateOk G v i) : matesOkB G = true := by simpa [matesOkB] using h
theorem matesOkB_mkF {G : Gr} (h : ¬ ∀ v, v < G.ps.length → ∀ i, i < (rowA G.ps v).length → MateOk G v i) : matesOkB G = false := by simpa [matesOkB] using h
theorem matesOkB_iff {G : Gr} : matesOkB G = true ↔ ∀ v, v < G.ps.length → ∀ i, i < (rowA G.ps v).length → MateOk G v i := by simp [matesOkB]

/-- the table behind v whole rows and i links of row v -/
def tabF (ps : List (List (Int × Int))) (v i a b : Nat) : Int := if a < v then wtab (rowA ps a) (rowA ps a).length b else if a = v then wtab (rowA ps a) i b else 0

theorem tabF_zero (ps : List (List (Int × Int))) (a b : Nat) : tabF ps 0 0 a b = 0 := by
  unfold tabF
  simp [wtab]
theorem tabF_same {ps : List (List (Int × Int))} {v i d : Nat} (h : toA (rowA ps v) i = d) : tabF ps v (i + 1) v d = wtA (rowA ps v) i := by
  unfold tabF
  rw [if_neg (Nat.lt_irrefl v), if_pos rfl, wtab, if_pos h]
theorem tabF_other {ps : List (List (Int × Int))} {v i d a b : Nat} (h : toA (rowA ps v) i = d) (hab : ¬ (a = v ∧ b = d)) : tabF ps v (i + 1) a b = tabF ps v i a b := by
  unfold tabF
  by_cases h1 : a < v
  · rw [if_pos h1, if_pos h1]
  · rw [if_neg h1, if_neg h1]
    by_cases h2 : a = v
    · rw [if_pos h2, if_pos h2, wtab, if_neg (by rw [h2, h]; intro e; exact hab ⟨h2, by omega⟩)]
    · rw [if_neg h2, if_neg h2]
theorem tabF_row (ps : List (List (Int × Int))) (v a b : Nat) : tabF ps v (rowA ps v).length a b = tabF ps (v + 1) 0 a b := by
  unfold tabF
  by_cases h1 : a < v
  · rw [if_pos h1, if_pos (by omega)]
  · rw [if_neg h1]
    by_cases h2 : a = v
    · subst h2
      rw [if_pos rfl, if_pos (Nat.lt_succ_self a)]
    · rw [if_neg h2, if_neg (by omega)]
      simp [wtab]
theorem tabF_all {ps : List (List (Int × Int))} {n a b : Nat} (h : a < n) : tabF ps n 0 a b = wtab (rowA ps a) (rowA ps a).length b := by
  unfold tabF
  rw [if_pos h]

set_option maxHeartbeats 1000000 in
theorem agree_any (ia pa : Option Addr) (il ic pl pc : Nat) (G : Gr) (w : World) (hG : GraphAt w ia il pa pl G) (h1 : 1 ≤ pl) (h24 : pl ≤ 24) (hok : ∀ v : Nat, v < pl → LinksOk (rowA G.ps v) v pl) :
    Calls Try.prog 34 #[.agg #[.slice ia il ic, .slice pa pl pc]] w fun e w' => e = .returned (.bool (matesOkB G)) ∧ Below w.heap.size w w' := by
  have Hpl := Lib.hid hG.pl
  have Hok := Lib.hid hok
  clear hok
  obtain ⟨pb, po, rfl, hpb, hrow⟩ := hG.ports.row (by have := Hpl.out; omega)
  have Hrow := Lib.hid hrow
  clear hrow
  have hz := zeroTable
  go_enter Try.func34, Try.ntmps34
  go_wp2
  clear hz
  go_loopw [15] (fun t wr => ∃ v : Nat, v ≤ pl ∧ t = .int .i64 v ∧ Below (w.heap.size + 1) (w.alloc (.cells #[.slice ia il ic, .slice (some ⟨pb, po, none⟩) pl pc] 25)) wr ∧ w.heap.size + 1 < wr.heap.size ∧
    (∀ a b, a < 24 → b < 24 → wr.cell? ⟨w.heap.size + 1, a * 24 + b, none⟩ = some (.int .u8 (tabF G.ps v 0 a b)) ∧ wr.frozen? ⟨w.heap.size + 1, a * 24 + b, none⟩ = false)) (fun t _ => pl - (intOf t).toNat)
  case atStart =>
    refine ⟨0, Nat.zero_le _, rfl, (Below.refl _ _).alloc (by simp) _, by simp, fun a b ha hb => ⟨?_, by simp⟩⟩
    rw [show w.heap.size + 1 = (w.alloc (.cells #[.slice ia il ic, .slice (some ⟨pb, po, none⟩) pl pc] 25)).heap.size from by simp, World.cell?_alloc_new, zeros576_at (by omega), tabF_zero]
  case round =>
    obtain ⟨v, hv, rfl, hbel, hsz, hT⟩ := hrel
    have HT := Lib.hid hT
    clear hT
    by_cases hlt : v < pl
    · obtain ⟨la, lc, hcl, hL⟩ := Hrow.out v (by have := Hpl.out; omega)
      have hcl := ((belBox hbel).cell (p := ⟨pb, po + v, none⟩) hpb).trans hcl
      have hlm := hL.size
      unfold maxLen at hlm
      have HL := Lib.hid hL
      clear hL
      go_wp2
      obtain ⟨wo, rfl⟩ : ∃ wo : World, wo = wr := ⟨_, rfl⟩
      go_loopw [22] (fun t wr => ∃ i : Nat, i ≤ (rowA G.ps v).length ∧ t = .int .i64 i ∧ Below (w.heap.size + 1) (w.alloc (.cells #[.slice ia il ic, .slice (some ⟨pb, po, none⟩) pl pc] 25)) wr ∧ w.heap.size + 1 < wr.heap.size ∧
        (∀ a b, a < 24 → b < 24 → wr.cell? ⟨w.heap.size + 1, a * 24 + b, none⟩ = some (.int .u8 (tabF G.ps v i a b)) ∧ wr.frozen? ⟨w.heap.size + 1, a * 24 + b, none⟩ = false)) (fun t _ => (rowA G.ps v).length - (intOf t).toNat)
      case atStart => exact ⟨0, Nat.zero_le _, rfl, hbel, hsz, HT.out⟩
      case round =>
        obtain ⟨i, hi, rfl, hbel2, hsz2, hT2⟩ := hrel
        have HT2 := Lib.hid hT2
        clear hT2
        by_cases hli : i < (rowA G.ps v).length
        · obtain ⟨lb, lo, rfl, hlb, hcs⟩ := (HL.out.below (belBox hbel2)).row (by omega)
          have hck1 := (hcs i hli).1
          have hck2 := (hcs i hli).2
          clear hcs
          have hlok := Hok.out v hlt i hli
          obtain ⟨d, hd⟩ : ∃ d : Nat, toA (rowA G.ps v) i = d := ⟨(toA (rowA G.ps v) i).toNat, by have := hlok.1; omega⟩
          have hdl : d < pl := by have := hlok.1; omega
          have hw1 := hlok.2.2.1.1
          have hw2 := hlok.2.2.1.2
          rw [hd] at hck1
          have Hd := Lib.hid hd
          clear hd hlok
          have hc0 := (HT2.out v d (by omega) (by omega)).1
          have hf0 := (HT2.out v d (by omega) (by omega)).2
          have hv24 : (v : Int) < 24 := by omega
          have hd24 : (d : Int) < 24 := by omega
          go_wp2
          go_region
          go_wp2
          go_roundw
          case rel =>
            refine ⟨i + 1, by omega, by go_num, ((hbel2.setCell (Nat.le_refl _) _).alloc (by simp; omega) _).drew, by simp; omega, fun a b ha hb => ⟨?_, ?_⟩⟩
            · rw [World.cell?_drew, World.cell?_alloc_lt _ _ _ (by simp; omega)]
              by_cases hab : a = v ∧ b = d
              · obtain ⟨rfl, rfl⟩ := hab
                rw [tabF_same Hd.out]
                exact set_same hc0
              · rw [tabF_other Hd.out hab, set_other (by intro h; injection h with _ h2 _; omega)]
                exact (HT2.out a b ha hb).1
            · rw [World.frozen?_drew, World.frozen?_alloc_old _ _ _ (by simp; omega), World.frozen?_setCell]
              exact (HT2.out a b ha hb).2
          case measure => simp [intOf]; omega
        · go_wp2
          go_roundw
          case rel => exact ⟨v + 1, by omega, by go_num, hbel2, hsz2, fun a b ha hb => by
            rw [← tabF_row, show (rowA G.ps v).length = i by omega]
            exact HT2.out a b ha hb⟩
          case measure => simp [intOf]; omega
    · have Ht := Lib.hid (fun a b (ha : a < pl) (hb : b < 24) => show wr.cell? ⟨w.heap.size + 1, a * 24 + b, none⟩ = some (.int .u8 (wtab (rowA G.ps a) (rowA G.ps a).length b)) from by
        have := (HT.out a b (by omega) hb).1
        rw [show v = pl by omega, tabF_all ha] at this
        exact this)
      have hb1 : wr.cell? ⟨w.heap.size, 1, none⟩ = some (.slice (some ⟨pb, po, none⟩) pl pc) := boxed hbel 1
      clear HT
      go_wp2
      clear hb1 hlt hv
      have Hstart := Lib.hid hbel
      obtain ⟨wa, rfl⟩ : ∃ wo : World, wo = wr := ⟨_, rfl⟩
      go_loopw [39] (fun t wr => ∃ v : Nat, v ≤ pl ∧ t = .int .i64 v ∧ Below (w.heap.size + 1) (w.alloc (.cells #[.slice ia il ic, .slice (some ⟨pb, po, none⟩) pl pc] 25)) wr ∧ Below wa.heap.size wa wr ∧
        (∀ j, j < v → ∀ i, i < (rowA G.ps j).length → MateOk G j i)) (fun t _ => pl - (intOf t).toNat)
      case atStart => exact ⟨0, Nat.zero_le _, rfl, hbel, Below.refl _ _, fun j hj => absurd hj (by omega)⟩
      case round =>
        clear hbel
        obtain ⟨v2, hv, rfl, hbel, hbela, hn⟩ := hrel
        have Hn := Lib.hid hn
        clear hn
        by_cases hlt : v2 < pl
        · obtain ⟨la, lc, hcl, hL⟩ := Hrow.out v2 (by have := Hpl.out; omega)
          have hcl := ((belBox hbel).cell (p := ⟨pb, po + v2, none⟩) hpb).trans hcl
          have hlm := hL.size
          unfold maxLen at hlm
          have HL := Lib.hid hL
          clear hL
          go_wp2
          obtain ⟨wo, rfl⟩ : ∃ wo : World, wo = wr := ⟨_, rfl⟩
          go_loopw [46] (fun t wr => ∃ i : Nat, i ≤ (rowA G.ps v2).length ∧ t = .int .i64 i ∧ Below (w.heap.size + 1) (w.alloc (.cells #[.slice ia il ic, .slice (some ⟨pb, po, none⟩) pl pc] 25)) wr ∧ Below wa.heap.size wa wr ∧
            (∀ j, j < i → MateOk G v2 j)) (fun t _ => (rowA G.ps v2).length - (intOf t).toNat)
          case atStart => exact ⟨0, Nat.zero_le _, rfl, hbel, hbela, fun j hj => absurd hj (by omega)⟩
          case round =>
            obtain ⟨i, hi, rfl, hbel2, hbela2, hn2⟩ := hrel
            have Hn2 := Lib.hid hn2
            clear hn2
            by_cases hli : i < (rowA G.ps v2).length
            · obtain ⟨lb, lo, rfl, hlb, hcs⟩ := (HL.out.below (belBox hbel2)).row (by omega)
              have hck1 := (hcs i hli).1
              have hck2 := (hcs i hli).2
              clear hcs
              have hlok := Hok.out v2 hlt i hli
              obtain ⟨d, hd⟩ : ∃ d : Nat, toA (rowA G.ps v2) i = d := ⟨(toA (rowA G.ps v2) i).toNat, by have := hlok.1; omega⟩
              have hdl : d < pl := by have := hlok.1; omega
              have hw1 := hlok.2.2.1.1
              have hw2 := hlok.2.2.1.2
              rw [hd] at hck1
              have Hm := Lib.hid (mate_iff (G := G) (v := v2) (i := i) (d := d) (by rw [← Hpl.out]; exact Hok.out d hdl) hd hw1)
              clear hd hlok
              have hc0 := (hbela2.cell (p := ⟨w.heap.size + 1, d * 24 + v2, none⟩) hsz).trans (Ht.out d v2 hdl (by omega))
              have hv24 : (v2 : Int) < 24 := by omega
              have hd24 : (d : Int) < 24 := by omega
              have hz3 : w.heap.size + 1 < wr.heap.size := Nat.lt_of_lt_of_le hsz hbela2.size
              generalize wtab (rowA G.ps d) (rowA G.ps d).length v2 = x at *
              generalize hy : wtA (rowA G.ps v2) i = y at *
              by_cases he : x = y
              · have e1 : (x == y) = true := by simpa using he
                have e2 : (x != y) = false := by simpa using he
                have Hmm := Lib.hid (Hm.out.2 he)
                clear he Hm hy
                go_wp2
                go_quiet (fail)
                go_wp2
                go_roundw
                case rel => exact ⟨i + 1, by omega, by go_num, belDraws (hbel2.alloc (by omega) _) _, belDraws (hbela2.alloc hbela2.size _) _, fun j hj => by
                  rcases Nat.lt_or_ge j i with h | h
                  · exact Hn2.out j h
                  · rw [show j = i by omega]; exact Hmm.out⟩
                case measure => simp [intOf]; omega
              · have e1 : (x == y) = false := by simpa using he
                have e2 : (x != y) = true := by simpa using he
                have Hf := Lib.hid (matesOkB_mkF (G := G) fun h => he (Hm.out.1 (h v2 (by have := Hpl.out; omega) i hli)))
                clear he Hm hy
                go_wp2
                go_quiet (fail)
                go_wp2
                go_ret
                exact ⟨ret_bool Hf.out.symm, belDraws ((belBox hbel2).alloc (by omega) _) _⟩
            · go_wp2
              go_roundw
              case rel => exact ⟨v2 + 1, by omega, by go_num, hbel2, hbela2, fun j hj => by
                rcases Nat.lt_or_ge j v2 with h | h
                · exact Hn.out j h
                · rw [show j = v2 by omega]; exact fun i' hi' => Hn2.out i' (by omega)⟩
              case measure => simp [intOf]; omega
        · have Hf := Lib.hid (matesOkB_mk (G := G) fun j hj => Hn.out j (by have := Hpl.out; omega))
          go_wp2
          go_ret
          exact ⟨ret_bool Hf.out.symm, belBox hbel⟩
end Go.Proofs.Ytfbbkiibhdgojaa
