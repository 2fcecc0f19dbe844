/- What Format of package graphtext answers. -/
import Derived.Test.YtahhndhaciijpaaDoorBuild
import Derived.Test.YtahhndhaciijpaaDoorGraph4
import Derived.Deep.RegionWith
import Derived.Lib.AppendIntMem
namespace Go.Proofs.YtahhndhaciijpaaDoor
open Go.RowKit

theorem dec_digits (n : Nat) : Lib.decDigits n = decB n := by
  induction n using Nat.strongRecOn with
  | ind n ih =>
    rw [Lib.decDigits]
    by_cases h : n < 10
    · rw [dif_pos h, dec_small h]; rfl
    · rw [dif_neg h, dec_big (by omega), ih (n / 10) (by omega)]; rfl
/-- the library's table of powers of ten -/
def Tb (w : World) : Prop := Lib.TabIs Tryd.prog w "internal/strconv.uint64pow10" .u64 Lib.pow10Tab
theorem Tb.below {w w' : World} (h : Tb w) (hb : Below w.heap.size w w') : Tb w' :=
  Go.Joins.tab_stays (show Tryd.prog.globalNamed "internal/strconv.uint64pow10" = some 0 by kernel_rfl) h hb (Nat.le_refl _)
theorem itoa_at (n : Nat) (hn : n < 1000000) (w : World) (hT : Tb w) :
    Calls Tryd.prog 24 #[.int .i64 (n : Int)] w fun e w' => e = .returned (.string ⟨(decB n).toArray⟩) ∧ Below w.heap.size w w' := by
  refine (Tryd.strconv_Itoa (n : Int) (by omega) (by omega) w hT).mono ?_
  rintro e w' ⟨rfl, k, os, rfl⟩
  exact ⟨by rw [Lib.itoa_nonneg, dec_digits], Lib.below_grow _ w (Nat.le_refl _) k os⟩
theorem itoa_small (n : Nat) (hn : n < 100) (w : World) :
    Calls Tryd.prog 24 #[.int .i64 (n : Int)] w fun e w' => e = .returned (.string ⟨(decB n).toArray⟩) ∧ w = w' := by
  refine (Tryd.strconv_Itoa_small n hn w).mono ?_
  rintro e w' ⟨rfl, rfl⟩
  exact ⟨by rw [dec_digits], rfl⟩

/-- a builder of its own, from block b on, that holds l -/
def BuildAt (b : Nat) (l : Bytes) (w : World) : Prop := Lib.IsBuilder TB TU b b (Lib.byteCells l) w
theorem built_alloc {p : Value} {b : Nat} {l : List Value} {w : World} (h : Lib.BuilderAt TB TU b b p l w) (o : Obj) : Lib.BuilderAt TB TU b b p l (w.alloc o) := by
  obtain ⟨hB, v, hb, hown, hne⟩ := h
  exact ⟨hB, v, by rw [heap_alloc_old w o (heap_here hb)]; exact hb, hown.alloc o, hne⟩
theorem BuildAt.alloc {b : Nat} {l : Bytes} {w : World} (h : BuildAt b l w) (o : Obj) : BuildAt b l (w.alloc o) := h.imp (fun x => built_alloc x o) (fun x => built_alloc x o)
theorem BuildAt.drew {b : Nat} {l : Bytes} {w : World} (h : BuildAt b l w) : BuildAt b l w.drew := h
theorem built_below {p : Value} {b : Nat} {l : List Value} {w w' : World} (h : Lib.BuilderAt TB TU b b p l w) (hb : Below w.heap.size w w') : Lib.BuilderAt TB TU b b p l w' := by
  obtain ⟨hB, v, hbk, hown, hne⟩ := h
  exact ⟨hB, v, by rw [hb.block _ (heap_here hbk)]; exact hbk, hown.kept (row := none) ⟨hb.os, hb.tape, hb.output, hb.size, fun k hk _ => hb.block k hk⟩ own_ne, hne⟩
theorem BuildAt.below {b : Nat} {l : Bytes} {w w' : World} (h : BuildAt b l w) (hb : Below w.heap.size w w') : BuildAt b l w' := h.imp (fun x => built_below x hb) (fun x => built_below x hb)
theorem BuildAt.new (w : World) : BuildAt w.heap.size [] (w.alloc (.cells #[.pointer none, .slice none 0 0] TB)) :=
  .inl ⟨Nat.le_refl _, _, heap_alloc_new w _, World.ownsRow_nil _ _ _ _, by simp [Value.ownBlock]⟩
theorem write_at (b : Nat) (l t : Bytes) (w : World) (h : BuildAt b l w) (hl : l.length + t.length ≤ 1000000) (hb : b ≤ w.heap.size) :
    Calls Tryd.prog 23 #[.pointer (some ⟨b, 0, none⟩), .string ⟨t.toArray⟩] w fun e w' => e = .returned (.tuple #[.int .i64 t.length, .nilIface]) ∧ BuildAt b (l ++ t) w' ∧ Below b w w' := by
  refine (writeString_any b b (Lib.byteCells l) ⟨t.toArray⟩ w h (by simp [ByteArray.size, Lib.byteCells_length]; omega) hb).mono ?_
  rintro e w' ⟨rfl, h1, h2⟩
  refine ⟨by simp [ByteArray.size], .inr ?_, h2⟩
  rw [Lib.byteCells_append]
  exact h1
theorem writeB_at (b : Nat) (l : Bytes) (c : UInt8) (w : World) (h : BuildAt b l w) (hl : l.length ≤ 1000000) (hb : b ≤ w.heap.size) :
    Calls Tryd.prog 25 #[.pointer (some ⟨b, 0, none⟩), .int .u8 (c.toNat : Int)] w fun e w' => e = .returned .nilIface ∧ BuildAt b (l ++ [c]) w' ∧ Below b w w' := by
  refine (writeByte_any b b (Lib.byteCells l) (c.toNat : Int) w h (by rw [Lib.byteCells_length]; omega) hb).mono ?_
  rintro e w' ⟨rfl, h1, h2⟩
  refine ⟨rfl, .inr ?_, h2⟩
  rw [Lib.byteCells_append]
  exact h1
theorem string_at (b : Nat) (l : Bytes) (w : World) (h : BuildAt b l w) (hb : b ≤ w.heap.size) :
    Calls Tryd.prog 26 #[.pointer (some ⟨b, 0, none⟩)] w fun e w' => e = .returned (.string ⟨l.toArray⟩) ∧ Below b w w' :=
  Tryd.Builder_String_any b b l w h hb

set_option maxRecDepth 100000 in
set_option maxHeartbeats 4000000 in
theorem formatG_any (ia pa : Option Addr) (il ic pl pc : Nat) (G : Gr) (w : World) (hG : GraphAt w ia il pa pl G) (hT : Tb w) :
    Calls Tryd.prog 14 #[.agg #[.slice ia il ic, .slice pa pl pc]] w fun e w' => e = .returned (.tuple #[.string ⟨(formatS G).toArray⟩, .int .i64 (formatE G)]) ∧ Below w.heap.size w w' := by
  have Hpl := Lib.hid hG.pl
  have Hil := Lib.hid hG.il
  cases hv : validB G with
  | false =>
    have Hf : Hid (formatS G = []) := Lib.hid (by simp [formatS, hv])
    have Hf2 : Hid (formatE G = 1) := Lib.hid (by simp [formatE, hv])
    go_enter Tryd.func14, Tryd.ntmps14
    go_wp2_with (go_at_call 21; refine (valid_any _ _ _ _ _ _ G _ (hG.alloc _)).mono ?_; rintro e w1 ⟨rfl, hb1⟩)
    go_ret2
    exact ⟨ret_fmt Hf.out.symm Hf2.out.symm, ((Below.refl _ _).alloc (Nat.le_refl _) _).trans (hb1.mono (by simp))⟩
  | true =>
    have HV := Lib.hid (validB_iff.1 hv)
    have hp1 : 1 ≤ pl := by have := HV.out.pos; have := Hpl.out; omega
    have hp24 : pl ≤ 24 := by have := HV.out.le; have := Hpl.out; omega
    have hil : pl = il := by have := HV.out.ids; have := Hpl.out; have := Hil.out; omega
    subst hil
    have Hf : Hid (formatS G = fmtUpto G pl) := Lib.hid (by simp [formatS, hv, fmtUpto, nodesOf, Hpl.out])
    have Hf2 : Hid (formatE G = 0) := Lib.hid (by simp [formatE, hv])
    obtain ⟨pb, po, rfl, hpb, hrow⟩ := hG.ports.row (by have := Hpl.out; omega)
    obtain ⟨ib, io, rfl, hib, hidc⟩ := hG.ids.row (by have := Hil.out; omega)
    have Hrow := Lib.hid hrow
    have Hidc := Lib.hid hidc
    have HT := Lib.hid hT
    clear hrow hidc hT
    go_enter Tryd.func14, Tryd.ntmps14
    go_wp2_with (go_at_call 21; refine (valid_any _ _ _ _ _ _ G _ (hG.alloc _)).mono ?_; rintro e w1 ⟨rfl, hb1⟩; have b0 : w1.cell? ⟨w.heap.size, 1, none⟩ = some (.slice (some ⟨pb, po, none⟩) pl pc) := (hb1.cell (p := ⟨w.heap.size, 1, none⟩) (by simp)).trans (by simp [cell_push']); have b1 : w1.cell? ⟨w.heap.size, 0, none⟩ = some (.slice (some ⟨ib, io, none⟩) pl ic) := (hb1.cell (p := ⟨w.heap.size, 0, none⟩) (by simp)).trans (by simp [cell_push']); have b2 : (w1.alloc (.cells #[.pointer none, .slice none 0 0] 47)).cell? ⟨w.heap.size, 1, none⟩ = some (.slice (some ⟨pb, po, none⟩) pl pc) := (cell_push' _ _ _ _ _).trans ((if_neg (Nat.ne_of_lt (cell_lt b0))).trans b0))
    have B1 := Lib.hid (((Below.refl _ _).alloc (Nat.le_refl w.heap.size) (.cells #[.slice (some ⟨ib, io, none⟩) pl ic, .slice (some ⟨pb, po, none⟩) pl pc] 26)).trans (hb1.mono (by simp)))
    have hpos1 := B1.out.size
    have hbx := cell_lt b0
    simp at hbx
    have HB1 := Lib.hid b1
    have T1 := Lib.hid (HT.out.below B1.out)
    clear hb1 b0 b1 b2
    go_loopw [15] (fun t wr => ∃ v : Nat, v ≤ pl ∧ t = .int .i64 v ∧ BuildAt w1.heap.size (fmtUpto G v) wr ∧ Below w1.heap.size w1 wr) (fun t _ => pl - (intOf t).toNat)
    case atStart => exact ⟨0, Nat.zero_le _, rfl, BuildAt.new w1, (Below.refl _ _).alloc (Nat.le_refl _) _⟩
    case round =>
      obtain ⟨v, hvl, rfl, hbu, hbel⟩ := hrel
      have hfl := fmt_len HV.out v (by have := Hpl.out; omega)
      have HBU := Lib.hid hbu
      have hsz := hbel.size
      clear hbu
      by_cases hlt : v < pl
      · have hvG : v < G.ps.length := by have := Hpl.out; omega
        obtain ⟨la, lc, hcl, hL⟩ := Hrow.out v hvG
        have HL := Lib.hid hL
        have hlm := (HV.out.links v hvG).len hvG
        have hl24 : (rowA G.ps v).length < 24 := by have := HV.out.le; omega
        have old : ∀ (b' i : Nat) (u : Value), b' < w.heap.size → w.cell? ⟨b', i, none⟩ = some u → wr.cell? ⟨b', i, none⟩ = some u := fun b' i u h1 h2 => ((hbel.cell (p := ⟨b', i, none⟩) (show b' < _ by omega)).trans (B1.out.cell (p := ⟨b', i, none⟩) h1)).trans h2
        have hcr := old pb (po + v) _ hpb hcl
        have hidv := Hidc.out v (by have := Hil.out; omega)
        have hci := old ib (io + v) _ hib hidv
        have hc0 : wr.cell? ⟨w.heap.size, 0, none⟩ = some (.slice (some ⟨ib, io, none⟩) pl ic) := (hbel.cell (p := ⟨w.heap.size, 0, none⟩) (show w.heap.size < _ by omega)).trans HB1.out
        have hok := HV.out.id v hvG
        obtain ⟨d, hd⟩ : ∃ d : Nat, idA G.ids v = d := ⟨(idA G.ids v).toNat, by have := hok.1; omega⟩
        have hdl : d < 256 := by have := hok.1; omega
        rw [hd] at hci
        have Hd := Lib.hid hd
        have hvi : (v : Int) < pl := by omega
        have HBL := Lib.hid hbel
        have hdl2 := dec_le (n := d) (by omega)
        clear hcl hL hlm hidv hok hd old hbel
        have hadd1 := fun W => run_string_add_lists (P := Tryd.prog) W [110, 111, 100, 101, 32] (decB d) (by simp) (by omega)
        have hT2 : Tb wr := T1.out.below HBL.out
        have hit := itoa_at d (by omega) wr hT2
        have HTr := Lib.hid hT2
        clear hT2
        go_wp2_with (first | (go_at_call 24; refine hit.mono ?_; rintro e w2 ⟨rfl, hb2⟩; have hs2 := hb2.size; have hwr := write_at w1.heap.size (fmtUpto G v) (110 :: 111 :: 100 :: 101 :: 32 :: decB d) w2 (HBU.out.below hb2) (by simp; omega) (by omega)) | (go_at_call 23; refine hwr.mono ?_; rintro e w3 ⟨rfl, hbu3, hb3⟩))
        have HA0 : Hid (fmtUpto G v ++ 110 :: 111 :: 100 :: 101 :: 32 :: decB d = fmtUpto G v ++ lineUpto G v 0) := Lib.hid (by
          unfold lineUpto nodeW
          rw [Hd.out]
          simp)
        rw [HA0.out] at hbu3
        have B3 := Lib.hid ((HBL.out.trans (hb2.mono hsz)).trans hb3)
        have HBU3 := Lib.hid hbu3
        clear hadd1 HA0 hc0 hci hcr hit hwr hb2 hb3 hbu3 hs2
        obtain ⟨wo, rfl⟩ : ∃ wo : World, wo = w3 := ⟨_, rfl⟩
        go_loopw [30] (fun t wr => ∃ i : Nat, i ≤ (rowA G.ps v).length ∧ t = .int .i64 i ∧ BuildAt w1.heap.size (fmtUpto G v ++ lineUpto G v i) wr ∧ Below w1.heap.size w1 wr) (fun t _ => (rowA G.ps v).length - (intOf t).toNat)
        case atStart => exact ⟨0, Nat.zero_le _, rfl, HBU3.out, B3.out⟩
        case round =>
          clear HBU HBL HTr B3 HBU3
          obtain ⟨i, hin, rfl, hbu, hbel⟩ := hrel
          have HBU := Lib.hid hbu
          have hszi := hbel.size
          have hll := line_len HV.out (v := v) (i := i) hvG
          clear hbu
          by_cases hli : i < (rowA G.ps v).length
          · have Hsucc := Lib.hid (line_succ G v i hli)
            obtain ⟨lb, lo, rfl, hlb, hcs⟩ := HL.out.row (by omega)
            have hck1 := (hbel.cell (p := ⟨lb, lo + i * 2, none⟩) (show lb < _ by omega)).trans ((B1.out.cell (p := ⟨lb, lo + i * 2, none⟩) hlb).trans (hcs i hli).1)
            have hck2 := (hbel.cell (p := ⟨lb, lo + i * 2 + 1, none⟩) (show lb < _ by omega)).trans ((B1.out.cell (p := ⟨lb, lo + i * 2 + 1, none⟩) hlb).trans (hcs i hli).2)
            clear hcs
            have hok := HV.out.links v hvG i hli
            obtain ⟨t, ht⟩ : ∃ t : Nat, toA (rowA G.ps v) i = t := ⟨(toA (rowA G.ps v) i).toNat, by have := hok.1; omega⟩
            obtain ⟨x, hx⟩ : ∃ x : Nat, wtA (rowA G.ps v) i = x := ⟨(wtA (rowA G.ps v) i).toNat, by have := hok.2.2.1; omega⟩
            have htl : t < 24 := by have := hok.1; have := HV.out.le; omega
            have hxl : x < 16 := by have := hok.2.2.1; omega
            rw [ht] at hck1
            rw [hx] at hck2
            rw [ht, hx, Int.toNat_natCast, Int.toNat_natCast] at Hsucc
            clear hok ht hx
            have hli' : (i : Int) < (rowA G.ps v).length := by omega
            have hdt := dec_le (n := t) (by omega)
            have hdx := dec_le (n := x) (by omega)
            obtain ⟨A, hA⟩ : ∃ A : Bytes, fmtUpto G v ++ lineUpto G v i = A := ⟨_, rfl⟩
            have hAl : A.length ≤ 20000 := by rw [← hA, List.length_append]; omega
            have HA : Hid (fmtUpto G v ++ lineUpto G v (i + 1) = A ++ 32 :: (decB t ++ 47 :: decB x)) := Lib.hid (by rw [Hsucc.out, ← List.append_assoc, hA])
            rw [hA] at HBU
            have hadd1 := fun W => run_string_add_lists (P := Tryd.prog) W [32] (decB t) (by simp) (by omega)
            have hadd2 := fun W => run_string_add_lists (P := Tryd.prog) W (32 :: decB t) [47] (by simp; omega) (by simp)
            have hadd3 := fun W => run_string_add_lists (P := Tryd.prog) W (32 :: (decB t ++ [47])) (decB x) (by simp; omega) (by omega)
            have hi1 := fun W => itoa_small t (by omega) W
            have hi2 := fun W => itoa_small x (by omega) W
            have hbw := BuildAt.drew (BuildAt.alloc HBU.out (.cells #[.int .i64 (t : Int), .int .i64 (x : Int)] 41))
            have hws := write_at w1.heap.size A (32 :: (decB t ++ 47 :: decB x)) _ hbw (by simp; omega) (by simp; omega)
            have HBEL := Lib.hid hbel
            clear hA Hsucc hll hfl hbw hbel
            go_wp2_with fail
            go_region_with (first | (go_at_call 24; (with_reducible refine (hi1 _).mono ?_); rintro e w4 ⟨rfl, rfl⟩) | (go_at_call 24; (with_reducible refine (hi2 _).mono ?_); rintro e w5 ⟨rfl, rfl⟩) | (go_at_call 23; (with_reducible refine hws.mono ?_); rintro e w6 ⟨rfl, hbu6, hb6⟩; have HBU6 := Lib.hid hbu6; have B6 := Lib.hid hb6; clear hbu6 hb6))
            all_goals
              go_wp2_with fail
              go_roundw
              case rel => exact ⟨i + 1, by omega, by go_num, by rw [HA.out]; exact HBU6.out, (Below.drew (HBEL.out.alloc hszi _)).trans B6.out⟩
              case measure => simp [intOf]; omega
          · have HE : Hid ((fmtUpto G v ++ lineUpto G v i) ++ [10] = fmtUpto G (v + 1)) := Lib.hid (by
              rw [show i = (rowA G.ps v).length by omega, line_whole, fmt_succ]
              simp)
            obtain ⟨A, hA⟩ : ∃ A : Bytes, fmtUpto G v ++ lineUpto G v i = A := ⟨_, rfl⟩
            have hAl : A.length ≤ 20000 := by rw [← hA, List.length_append]; omega
            rw [hA] at HE HBU
            have hwb := writeB_at w1.heap.size A 10 wr HBU.out (by omega) hszi
            have HBEL := Lib.hid hbel
            clear hA hll hfl hbel
            go_wp2_with (go_at_call 25; refine hwb.mono ?_; rintro e w4 ⟨rfl, hbu4, hb4⟩; have HBU4 := Lib.hid hbu4; have B4 := Lib.hid hb4; clear hbu4 hb4)
            go_roundw
            case rel => exact ⟨v + 1, by omega, by go_num, by rw [← HE.out]; exact HBU4.out, HBEL.out.trans B4.out⟩
            case measure => simp [intOf]; omega
      · have hst := string_at w1.heap.size (fmtUpto G v) wr HBU.out hsz
        have HBEL := Lib.hid hbel
        clear hbel
        go_wp2_with (go_at_call 26; refine hst.mono ?_; rintro e w2 ⟨rfl, hb2⟩)
        go_ret2
        exact ⟨ret_fmt (by rw [Hf.out, show pl = v by omega]) Hf2.out.symm, B1.out.trans ((HBEL.out.trans hb2).mono hpos1)⟩
end Go.Proofs.YtahhndhaciijpaaDoor
