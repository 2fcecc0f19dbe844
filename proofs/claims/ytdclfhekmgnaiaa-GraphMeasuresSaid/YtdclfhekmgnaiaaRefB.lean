/- What Back, Neighbours and Independent of the specification answer. -/
import Derived.Test.YtdclfhekmgnaiaaRefA
namespace Go.Proofs.Ytdclfhekmgnaiaa
open Go.RowKit

theorem backF_out {G : Gr} {v p : Int} (h : inB p 0 (degF G v - 1) = false) : backF G v p = -1 := by
  unfold backF
  rw [if_neg]
  rintro ⟨h1, h2, h3, h4⟩
  have h5 : degF G v = (rowA G.ps v.toNat).length := by unfold degF; rw [if_pos ⟨h1, h2⟩]
  rw [inB_mk (by omega)] at h
  cases h
theorem backF_in {G : Gr} {v p : Int} (h : inB p 0 (degF G v - 1) = true) : ValidG G ∧ ∃ d i : Nat, v = d ∧ p = i ∧ d < G.ps.length ∧ i < (rowA G.ps d).length ∧ degF G v = (rowA G.ps d).length ∧ backF G v p = portF (rowA G.ps (toA (rowA G.ps d) i).toNat) d := by
  have h0 := inB_true h
  have h6 : ¬ degF G v ≤ 0 := by omega
  unfold degF at h6
  split at h6
  · rename_i hc
    have h7 := inB_true hc.2
    have h5 : degF G v = (rowA G.ps v.toNat).length := by unfold degF; rw [if_pos hc]
    refine ⟨validB_iff.1 hc.1, v.toNat, p.toNat, by omega, by omega, by omega, by omega, h5, ?_⟩
    unfold backF
    rw [if_pos ⟨hc.1, hc.2, by omega, by omega⟩, show ((v.toNat : Nat) : Int) = v from by omega]
  · omega

theorem degF_le (G : Gr) (v : Int) : 0 ≤ degF G v ∧ degF G v ≤ 24 := by
  unfold degF
  split
  · rename_i hc
    have h7 := inB_true hc.2
    have hV := validB_iff.1 hc.1
    have := (hV.links v.toNat (by omega)).len (by omega)
    have := hV.le
    omega
  · omega

set_option maxHeartbeats 1000000 in
theorem refBack_any (ia pa : Option Addr) (il ic pl pc : Nat) (G : Gr) (v p : Int) (w : World) (hG : GraphAt w ia il pa pl G) :
    Calls Try.prog 20 #[.agg #[.slice ia il ic, .slice pa pl pc], .int .i64 v, .int .i64 p] w fun e w' => e = .returned (.int .i64 (backF G v p)) ∧ Below w.heap.size w w' := by
  have Hpl := Lib.hid hG.pl
  obtain ⟨hd1, hd2⟩ := degF_le G v
  cases hi : inB p 0 (degF G v - 1) with
  | false =>
    have Hf := Lib.hid (backF_out hi)
    go_enter Try.func20, Try.ntmps20
    go_wp2_with (first | (go_at_call 18; refine (refDegree_any _ _ _ _ _ _ G v _ (hG.alloc _)).mono ?_; rintro e w1 ⟨rfl, hb1⟩; have hbx : Below (w.heap.size + 1) (w.alloc (.cells #[.slice ia il ic, .slice pa pl pc] 25)) w1 := hb1.mono (by simp)) | (go_at_call 44; refine (in_any p 0 (degF G v - 1) _).mono ?_; rintro e w2 ⟨rfl, rfl⟩; rw [hi]))
    go_ret
    exact ⟨ret_int Hf.out.symm, belBox hbx⟩
  | true =>
    obtain ⟨hV, d, i, rfl, rfl, hdG, hil, hdg, hback⟩ := backF_in hi
    have hdl : d < pl := by have := Hpl.out; omega
    have hdl' : (d : Int) < pl := by omega
    have hok := hV.links d hdG i hil
    have hlen := (hV.links d hdG).len hdG
    have HV := Lib.hid hV
    have Hback := Lib.hid hback
    clear hV hback
    obtain ⟨u, hu⟩ : ∃ u : Nat, toA (rowA G.ps d) i = u := ⟨(toA (rowA G.ps d) i).toNat, by have := hok.1; omega⟩
    have hul : u < pl := by have := hok.1; have := Hpl.out; omega
    have hil' : (i : Int) < (rowA G.ps d).length := by omega
    have hlm : (rowA G.ps d).length < 24 := by have := HV.out.le; omega
    rw [hu, Int.toNat_natCast] at Hback
    clear hlen hok
    obtain ⟨pb, po, rfl, hpb, hrow⟩ := hG.ports.row (by have := Hpl.out; omega)
    obtain ⟨la, lc, hcl, hL⟩ := hrow d hdG
    clear hrow
    obtain ⟨lb, lo, rfl, hlb, hcs⟩ := hL.row (by omega)
    have hck := (hcs i hil).1
    rw [hu] at hck
    clear hcs hL hu
    rw [hdg] at hi
    go_enter Try.func20, Try.ntmps20
    go_wp2_with (first | (go_at_call 18; refine (refDegree_any _ _ _ _ _ _ G d _ (hG.alloc _)).mono ?_; rintro e w1 ⟨rfl, hb1⟩; rw [hdg]; have hbx : Below (w.heap.size + 1) (w.alloc (.cells #[.slice ia il ic, .slice (some ⟨pb, po, none⟩) pl pc] 25)) w1 := hb1.mono (by simp); have hx0 : w1.cell? ⟨w.heap.size, 0, none⟩ = some (.slice ia il ic) := boxed hbx 0; have hx1 : w1.cell? ⟨w.heap.size, 1, none⟩ = some (.slice (some ⟨pb, po, none⟩) pl pc) := boxed hbx 1; have hx2 := ((belBox hbx).cell (p := ⟨pb, po + d, none⟩) hpb).trans hcl; have hx3 := ((belBox hbx).cell (p := ⟨lb, lo + i * 2, none⟩) hlb).trans hck) | (go_at_call 44; refine (in_any i 0 ((rowA G.ps d).length - 1) _).mono ?_; rintro e w2 ⟨rfl, rfl⟩; rw [hi]))
    go_region_held3 (fun w' => w'.cell? ⟨w.heap.size, 0, none⟩ = some (.slice ia il ic) ∧ w'.cell? ⟨w.heap.size, 1, none⟩ = some (.slice (some ⟨pb, po, none⟩) pl pc) ∧ w'.cell? ⟨pb, po + d, none⟩ = some (.slice (some ⟨lb, lo, none⟩) (rowA G.ps d).length lc) ∧ w'.cell? ⟨lb, lo + i * 2, none⟩ = some (.int .i64 (u : Int)) ∧ Below (w.heap.size + 1) (w.alloc (.cells #[.slice ia il ic, .slice (some ⟨pb, po, none⟩) pl pc] 25)) w') (first | exact ⟨hx40, hx41, hx42, hx43, hD4⟩ | exact ⟨hx0, hx1, hx2, hx3, hbx.drew⟩ | exact ⟨hx0, hx1, hx2, hx3, hbx⟩) (first | (go_at_call 46; have hHd := ‹_ ∧ _ ∧ _ ∧ _ ∧ Below (w.heap.size + 1) _ _›; (with_reducible refine (port_any _ _ _ _ _ _ G u d _ ?_ hul).mono ?_); exact hG.below (belBox hHd.2.2.2.2); rintro e w4 ⟨rfl, hb4⟩; have hD4 : Below (w.heap.size + 1) (w.alloc (.cells #[.slice ia il ic, .slice (some ⟨pb, po, none⟩) pl pc] 25)) w4 := hHd.2.2.2.2.trans (hb4.mono (Nat.le_trans (by simp) hHd.2.2.2.2.size)); have hx40 : w4.cell? ⟨w.heap.size, 0, none⟩ = some (.slice ia il ic) := boxed hD4 0; have hx41 : w4.cell? ⟨w.heap.size, 1, none⟩ = some (.slice (some ⟨pb, po, none⟩) pl pc) := boxed hD4 1; have hx42 := ((belBox hD4).cell (p := ⟨pb, po + d, none⟩) hpb).trans hcl; have hx43 := ((belBox hD4).cell (p := ⟨lb, lo + i * 2, none⟩) hlb).trans hck))
    go_wp2_with fail
    go_ret
    exact ⟨ret_int Hback.out.symm, belBox hD4⟩

theorem nb_bit {G : Gr} (hV : ValidG G) {set j : Nat} : (nbF G set).testBit j = true ↔ j < G.ps.length ∧ ∃ i, i < (rowA G.ps j).length ∧ set.testBit (toA (rowA G.ps j) i).toNat = true := by
  unfold nbF
  rw [validB_mk hV, if_pos rfl, arF_bit]
  constructor
  · rintro ⟨p, hp, h⟩
    obtain ⟨h1, h2, h3⟩ := (links_adj hV).1 hp
    have h4 := h3.lt hV h2
    rcases h with ⟨h5, h6⟩ | ⟨h5, h6⟩
    · obtain ⟨i, hi, e⟩ := h3.symm hV h2
      rw [h6]
      exact ⟨h4.1, i, hi, by rw [e, Int.toNat_natCast]; exact h5⟩
    · obtain ⟨i, hi, e⟩ := h3
      rw [h6]
      exact ⟨h2, i, hi, by rw [e, Int.toNat_natCast]; exact h5⟩
  · rintro ⟨h1, i, hi, h2⟩
    have hok := hV.links j h1 i hi
    unfold LinkOk at hok
    obtain ⟨d, hd⟩ : ∃ d : Nat, toA (rowA G.ps j) i = d := ⟨(toA (rowA G.ps j) i).toNat, by omega⟩
    have ha : Adj G j d := ⟨i, hi, hd⟩
    have hdl := ha.lt hV h1
    rw [hd, Int.toNat_natCast] at h2
    by_cases h : j < d
    · exact ⟨(j, d), (links_adj hV).2 ⟨h, h1, ha⟩, .inr ⟨h2, rfl⟩⟩
    · exact ⟨(d, j), (links_adj hV).2 ⟨by show d < j; omega, hdl.1, ha.symm hV h1⟩, .inl ⟨h2, rfl⟩⟩

set_option maxHeartbeats 1000000 in
theorem refNeighbours_any (ia pa : Option Addr) (il ic pl pc : Nat) (G : Gr) (set : Nat) (w : World) (hG : GraphAt w ia il pa pl G) (hset : set < 4294967296) :
    Calls Try.prog 22 #[.agg #[.slice ia il ic, .slice pa pl pc], .int .u32 (set : Int)] w fun e w' => e = .returned (.int .u32 (nbF G set)) ∧ Below w.heap.size w w' := by
  have Hpl := Lib.hid hG.pl
  cases hv : validB G with
  | false =>
    have Hf : Hid (nbF G set = 0) := Lib.hid (by simp [nbF, hv])
    go_enter Try.func22, Try.ntmps22
    go_wp2_with (go_at_call 16; refine (refValid_any _ _ _ _ _ _ G _ (hG.alloc _)).mono ?_; rintro e w1 ⟨rfl, hb1⟩)
    go_ret
    exact ⟨ret_int (by rw [Hf.out]; rfl), ((Below.refl _ _).alloc (Nat.le_refl _) _).trans (hb1.mono (by simp))⟩
  | true =>
    have HV := Lib.hid (validB_iff.1 hv)
    have hp1 : 1 ≤ pl := by have := HV.out.pos; have := Hpl.out; omega
    have hp24 : pl ≤ 24 := by have := HV.out.le; have := Hpl.out; omega
    obtain ⟨pb, po, rfl, hpb, hrow⟩ := hG.ports.row (by have := Hpl.out; omega)
    have Hrow := Lib.hid hrow
    clear hrow
    go_enter Try.func22, Try.ntmps22
    go_wp2_with (go_at_call 16; refine (refValid_any _ _ _ _ _ _ G _ (hG.alloc _)).mono ?_; rintro e w1 ⟨rfl, hb1⟩; have hbx : Below (w.heap.size + 1) (w.alloc (.cells #[.slice ia il ic, .slice (some ⟨pb, po, none⟩) pl pc] 25)) w1 := hb1.mono (by simp); have hx0 : w1.cell? ⟨w.heap.size, 0, none⟩ = some (.slice ia il ic) := boxed hbx 0; have hx1 : w1.cell? ⟨w.heap.size, 1, none⟩ = some (.slice (some ⟨pb, po, none⟩) pl pc) := boxed hbx 1)
    clear hb1
    go_loop [5, 6] (fun f t => ∃ v S : Nat, v ≤ pl ∧ f = .int .u32 S ∧ t = .int .i64 v ∧ S < 4294967296 ∧ ∀ j, S.testBit j = true ↔ j < v ∧ ∃ i, i < (rowA G.ps j).length ∧ set.testBit (toA (rowA G.ps j) i).toNat = true) (fun _ t => pl - (intOf t).toNat)
    case atStart => exact ⟨0, 0, Nat.zero_le _, rfl, rfl, by decide, fun j => by simp⟩
    case round =>
      obtain ⟨v, S, hv, rfl, rfl, hS, hb⟩ := hrel
      have Hb := Lib.hid hb
      clear hb
      by_cases hlt : v < pl
      · obtain ⟨la, lc, hcl, hL⟩ := Hrow.out v (by have := Hpl.out; omega)
        have hvG : v < G.ps.length := by have := Hpl.out; omega
        have hcl := ((belBox hbx).cell (p := ⟨pb, po + v, none⟩) hpb).trans hcl
        have hlm := (HV.out.links v (by have := Hpl.out; omega)).len (by have := Hpl.out; omega)
        have hl24 : (rowA G.ps v).length < 24 := by have := HV.out.le; omega
        have HL := Lib.hid hL
        clear hL hlm
        go_wp2
        go_loop [5, 7] (fun f t => ∃ i T : Nat, i ≤ (rowA G.ps v).length ∧ f = .int .u32 T ∧ t = .int .i64 i ∧ T < 4294967296 ∧ ∀ j, T.testBit j = true ↔ S.testBit j = true ∨ (j = v ∧ ∃ k, k < i ∧ set.testBit (toA (rowA G.ps v) k).toNat = true)) (fun _ t => (rowA G.ps v).length - (intOf t).toNat)
        case atStart => exact ⟨0, S, Nat.zero_le _, rfl, rfl, hS, fun j => by simp⟩
        case round =>
          obtain ⟨i, T, hi, rfl, rfl, hT, hb⟩ := hrel
          have HT := Lib.hid hb
          clear hb
          by_cases hli : i < (rowA G.ps v).length
          · obtain ⟨lb, lo, rfl, hlb, hcs⟩ := HL.out.row (by omega)
            have hck := ((belBox hbx).cell (p := ⟨lb, lo + i * 2, none⟩) hlb).trans (hcs i hli).1
            clear hcs
            have hok := HV.out.links v hvG i hli
            obtain ⟨d, hd⟩ : ∃ d : Nat, toA (rowA G.ps v) i = d := ⟨(toA (rowA G.ps v) i).toNat, by have := hok.1; omega⟩
            have hdl : d < pl := by have := hok.1; have := Hpl.out; omega
            rw [hd] at hck
            have Hd := Lib.hid hd
            have hSd := hasS_nat (S := set) (v := d) (by omega)
            clear hok hd
            cases hsd : set.testBit d
            · rw [hsd] at hSd
              go_wp2_with (go_at_call 39; refine (has01_any set d _ hset).mono ?_; rintro e w5 ⟨rfl, rfl⟩; rw [hSd])
              go_round
              case rel =>
                refine ⟨i + 1, T, by omega, rfl, by go_num, hT, fun j => ?_⟩
                rw [HT.out]
                constructor
                · rintro (h | ⟨h, k, hk, h2⟩)
                  · exact .inl h
                  · exact .inr ⟨h, k, by omega, h2⟩
                · rintro (h | ⟨h, k, hk, h2⟩)
                  · exact .inl h
                  · by_cases h3 : k < i
                    · exact .inr ⟨h, k, h3, h2⟩
                    · rw [show k = i by omega, Hd.out, Int.toNat_natCast, hsd] at h2
                      cases h2
              case measure => simp [intOf]; omega
            · rw [hsd] at hSd
              have hor := bit_or hT (show v < 32 by omega)
              have hv32 : (v : Int) < 32 := by omega
              go_wp2_with (go_at_call 39; refine (has01_any set d _ hset).mono ?_; rintro e w5 ⟨rfl, rfl⟩; rw [hSd])
              go_round
              case rel =>
                refine ⟨i + 1, T ||| 2 ^ v, by omega, rfl, by go_num, or_lt hT (pow32 (by omega)), fun j => ?_⟩
                rw [or_bit_iff, HT.out]
                constructor
                · rintro ((h | ⟨h, k, hk, h2⟩) | h)
                  · exact .inl h
                  · exact .inr ⟨h, k, by omega, h2⟩
                  · exact .inr ⟨h, i, by omega, by rw [Hd.out, Int.toNat_natCast]; exact hsd⟩
                · rintro (h | ⟨h, _⟩)
                  · exact .inl (.inl h)
                  · exact .inr h
              case measure => simp [intOf]; omega
          · go_wp2
            go_round
            case rel =>
              refine ⟨v + 1, T, by omega, rfl, by go_num, hT, fun j => ?_⟩
              rw [HT.out, Hb.out, show i = (rowA G.ps v).length by omega]
              constructor
              · rintro (⟨h1, h2⟩ | ⟨rfl, h2⟩)
                · exact ⟨by omega, h2⟩
                · exact ⟨by omega, h2⟩
              · rintro ⟨h1, h2⟩
                by_cases h3 : j < v
                · exact .inl ⟨h3, h2⟩
                · obtain rfl : j = v := by omega
                  exact .inr ⟨rfl, h2⟩
            case measure => simp [intOf]; omega
      · have Hf : Hid (nbF G set = S) := Lib.hid (by
          apply Nat.eq_of_testBit_eq
          intro j
          rw [Bool.eq_iff_iff, nb_bit HV.out, Hb.out, show v = G.ps.length by have := Hpl.out; omega])
        go_wp2
        go_ret
        exact ⟨ret_int (by rw [Hf.out]), belBox hbx⟩

theorem andNot_all {set n : Nat} (hset : set < 4294967296) (hn : n ≤ 30) : (((bits .andNot .u32 (set : Int) (allS n : Int)) != 0) : Bool) = !(set / 2 ^ n == 0) := by
  have hA := allS_lt (n := n) (by omega)
  rw [u32_andNot_nat set (allS n) hset hA]
  have hb : ∀ j, (4294967295 - allS n).testBit j = (decide (j < 32) && !decide (j < n)) := by
    intro j
    rw [show 4294967295 - allS n = 2 ^ 32 - (allS n + 1) by omega, Nat.testBit_two_pow_sub_succ (by simpa using hA), allS_bit]
  have h1 : (set &&& (4294967295 - allS n) = 0) ↔ set / 2 ^ n = 0 := by
    constructor
    · intro h
      apply Nat.eq_of_testBit_eq
      intro j
      rw [Nat.zero_testBit, Nat.testBit_div_two_pow]
      cases hs : set.testBit (j + n) with
      | false => rfl
      | true =>
        have hlt : j + n < 32 := by
          have := Nat.ge_two_pow_of_testBit hs
          rcases Nat.lt_or_ge (j + n) 32 with h2 | h2
          · exact h2
          · have := Nat.pow_le_pow_right (n := 2) (by decide) h2
            omega
        have : (set &&& (4294967295 - allS n)).testBit (j + n) = true := by
          rw [Nat.testBit_and, hs, hb]
          simp; omega
        rw [h] at this
        simp at this
    · intro h
      have h2 : set < 2 ^ n := by
        have := Nat.div_eq_zero_iff.1 h
        have := Nat.two_pow_pos n
        omega
      apply Nat.eq_of_testBit_eq
      intro j
      rw [Nat.zero_testBit, Nat.testBit_and, hb]
      cases hs : set.testBit j with
      | false => rfl
      | true =>
        have h3 := Nat.ge_two_pow_of_testBit hs
        have : j < n := by
          rcases Nat.lt_or_ge j n with h4 | h4
          · exact h4
          · have := Nat.pow_le_pow_right (n := 2) (by decide) h4
            omega
        simp [this]
  rw [Bool.eq_iff_iff]
  simp only [bne_iff_ne, ne_eq, Bool.not_eq_true', beq_eq_false_iff_ne]
  rw [← h1]
  omega

theorem nbF_lt (G : Gr) (set : Nat) : nbF G set < 4294967296 := by
  unfold nbF
  cases hv : validB G
  · simp
  · have hV := validB_iff.1 hv
    refine arF_lt fun p hp => ?_
    obtain ⟨u, hu, j, hj, rfl⟩ := mem_allLinks.1 hp
    have := (hV.links u hu j hj).1
    have := hV.le
    exact lnk_near (by omega) (by omega)

set_option maxHeartbeats 1000000 in
theorem refIndependent_any (ia pa : Option Addr) (il ic pl pc : Nat) (G : Gr) (set : Nat) (w : World) (hG : GraphAt w ia il pa pl G) (hset : set < 4294967296) :
    Calls Try.prog 24 #[.agg #[.slice ia il ic, .slice pa pl pc], .int .u32 (set : Int)] w fun e w' => e = .returned (.bool (indB G set)) ∧ Below w.heap.size w w' := by
  have Hpl := Lib.hid hG.pl
  cases hv : validB G with
  | false =>
    have Hf : Hid (indB G set = false) := Lib.hid (by simp [indB, hv])
    go_enter Try.func24, Try.ntmps24
    go_wp2_with (go_at_call 16; refine (refValid_any _ _ _ _ _ _ G _ (hG.alloc _)).mono ?_; rintro e w1 ⟨rfl, hb1⟩)
    go_ret
    exact ⟨ret_bool Hf.out.symm, ((Below.refl _ _).alloc (Nat.le_refl _) _).trans (hb1.mono (by simp))⟩
  | true =>
    have HV := Lib.hid (validB_iff.1 hv)
    have hp24 : pl ≤ 24 := by have := HV.out.le; have := Hpl.out; omega
    have hand := bits_and (nbF G set) set (nbF_lt G set) hset
    rw [Nat.and_comm] at hand
    have hq3 : (((set &&& nbF G set : Nat) : Int) == 0) = (set &&& nbF G set == 0) := by rw [Bool.eq_iff_iff]; simp only [beq_iff_eq]; omega
    have Hf : Hid (indB G set = ((set / 2 ^ pl == 0) && (set &&& nbF G set == 0))) := Lib.hid (by simp [indB, hv, Hpl.out])
    have hq1 := andNot_all hset (n := pl) (by omega)
    cases hn1 : (set / 2 ^ pl == 0)
    · rw [hn1] at hq1 Hf
      go_enter Try.func24, Try.ntmps24
      go_wp2_with (first | (go_at_call 16; refine (refValid_any _ _ _ _ _ _ G _ (hG.alloc _)).mono ?_; rintro e w1 ⟨rfl, hb1⟩; have hbx : Below (w.heap.size + 1) (w.alloc (.cells #[.slice ia il ic, .slice pa pl pc] 25)) w1 := hb1.mono (by simp); have hx0 : w1.cell? ⟨w.heap.size, 0, none⟩ = some (.slice ia il ic) := boxed hbx 0; have hx1 : w1.cell? ⟨w.heap.size, 1, none⟩ = some (.slice pa pl pc) := boxed hbx 1) | (go_at_call 38; refine (all_any pl _ (by omega)).mono ?_; rintro e w2 ⟨rfl, rfl⟩))
      go_ret
      exact ⟨ret_bool (by rw [Hf.out]; rfl), belBox hbx⟩
    · rw [hn1] at hq1 Hf
      cases hq2 : (set &&& nbF G set == 0)
      all_goals
        rw [hq2] at Hf hq3
        go_enter Try.func24, Try.ntmps24
        go_wp2_with (first | (go_at_call 16; refine (refValid_any _ _ _ _ _ _ G _ (hG.alloc _)).mono ?_; rintro e w1 ⟨rfl, hb1⟩; have hbx : Below (w.heap.size + 1) (w.alloc (.cells #[.slice ia il ic, .slice pa pl pc] 25)) w1 := hb1.mono (by simp); have hx0 : w1.cell? ⟨w.heap.size, 0, none⟩ = some (.slice ia il ic) := boxed hbx 0; have hx1 : w1.cell? ⟨w.heap.size, 1, none⟩ = some (.slice pa pl pc) := boxed hbx 1) | (go_at_call 38; refine (all_any pl _ (by omega)).mono ?_; rintro e w2 ⟨rfl, rfl⟩) | (go_at_call 22; refine (refNeighbours_any _ _ _ _ _ _ G set _ (hG.below (belBox hbx)) hset).mono ?_; rintro e w3 ⟨rfl, hb3⟩))
        go_ret
        exact ⟨ret_bool (by rw [Hf.out]; rfl), (belBox hbx).trans (hb3.mono (belBox hbx).size)⟩
end Go.Proofs.Ytdclfhekmgnaiaa
