/- What Distances of the specification answers. -/
import Derived.Test.YtdclfhekmgnaiaaRefB
import Derived.Test.YtdclfhekmgnaiaaLev
namespace Go.Proofs.Ytdclfhekmgnaiaa
open Go.RowKit

/-- a row of numbers that the call owns -/
def RowAt (w : World) (b o n : Nat) (f : Nat → Int) : Prop :=
  b < w.heap.size ∧ ∀ i, i < n → w.cell? ⟨b, o + i, none⟩ = some (.int .i64 (f i)) ∧ w.frozen? ⟨b, o + i, none⟩ = false
theorem RowAt.set {w : World} {b o n : Nat} {f : Nat → Int} (h : RowAt w b o n f) {t : Nat} {x : Int} (ht : t < n) : RowAt (w.setCell ⟨b, o + t, none⟩ (.int .i64 x)) b o n (upd f t x) :=
  ⟨by simpa [World.setCell] using h.1, fun i hi => ⟨by
    by_cases e : i = t
    · subst e; rw [upd_same]; exact set_same (h.2 i hi).1
    · rw [upd_other e, set_other (by intro h; injection h; omega)]; exact (h.2 i hi).1, by rw [World.frozen?_setCell]; exact (h.2 i hi).2⟩⟩
theorem RowAt.keep {w w' : World} {b o n : Nat} {f : Nat → Int} (h : RowAt w b o n f) (hs : w.heap.size ≤ w'.heap.size) (hk : w'.heap[b]? = w.heap[b]?) : RowAt w' b o n f :=
  ⟨Nat.lt_of_lt_of_le h.1 hs, fun i hi => by
    rw [World.cell?_of_block (w := w) (a := ⟨b, o + i, none⟩) hk, World.frozen?_of_block (w := w) (a := ⟨b, o + i, none⟩) hk]
    exact h.2 i hi⟩
/-- a list of n numbers, at a -/
def ListAt (w : World) (a : Option Addr) (n : Nat) (f : Nat → Int) : Prop := n = 0 ∨ ∃ b o, a = some ⟨b, o, none⟩ ∧ RowAt w b o n f
theorem ListAt.keep {w w' : World} {a : Option Addr} {n : Nat} {f : Nat → Int} (h : ListAt w a n f) (hb : Below w.heap.size w w') : ListAt w' a n f := by
  rcases h with h | ⟨b, o, e, h⟩
  · exact .inl h
  · exact .inr ⟨b, o, e, h.keep hb.size (hb.block b h.1)⟩

theorem idA_rep {k i : Nat} (h : i < k) : idA (List.replicate k (-1)) i = -1 := by
  unfold idA
  simp [List.getD, h]

set_option maxRecDepth 100000 in
set_option maxHeartbeats 2000000 in
theorem refDistances_in (ia pa : Option Addr) (il ic pl pc : Nat) (G : Gr) (s : Nat) (w : World) (hG : GraphAt w ia il pa pl G) (hV : ValidG G) (hs : s < pl) :
    Calls Try.prog 27 #[.agg #[.slice ia il ic, .slice pa pl pc], .int .i64 s] w fun e w' => (∃ a c, e = .returned (.slice a pl c) ∧ ListAt w' a pl (distF G s)) ∧ Below w.heap.size w w' := by
  have Hpl := Lib.hid hG.pl
  have hp24 : pl ≤ 24 := by have := hV.le; have := Hpl.out; omega
  have h1 : 1 ≤ pl := by omega
  have hsG : s < G.ps.length := by have := Hpl.out; omega
  have hsi : (s : Int) < pl := by omega
  have hvb := validB_mk hV
  have hib : inB s 0 (pl - 1) = true := inB_mk (by omega)
  obtain ⟨pb, po, rfl, hpb, hrow⟩ := hG.ports.row (by have := Hpl.out; omega)
  have Hrow := Lib.hid hrow
  have HV := Lib.hid hV
  clear hrow hV
  go_enter Try.func27, Try.ntmps27
  go_wp2_with (first | (go_at_call 16; refine (refValid_any _ _ _ _ _ _ G _ (hG.alloc _)).mono ?_; rintro e w1 ⟨rfl, hb1⟩; rw [hvb]; have hbx : Below (w.heap.size + 1) (w.alloc (.cells #[.slice ia il ic, .slice (some ⟨pb, po, none⟩) pl pc] 25)) w1 := hb1.mono (by simp); have hx0 : w1.cell? ⟨w.heap.size, 0, none⟩ = some (.slice ia il ic) := boxed hbx 0; have hx1 : w1.cell? ⟨w.heap.size, 1, none⟩ = some (.slice (some ⟨pb, po, none⟩) pl pc) := boxed hbx 1) | (go_at_call 44; refine (in_any s 0 (pl - 1) _).mono ?_; rintro e w2 ⟨rfl, rfl⟩; rw [hib]))
  clear hx0 hx1 hb1
  go_loopw [6, 7] (fun q t wr => ∃ (k : Nat) (a : Option Addr) (c : Nat), k ≤ pl ∧ t = .int .i64 k ∧ q = .slice a k c ∧ QueueAt (w.heap.size + 1) wr a k c (List.replicate k (-1)) ∧ Below (w.heap.size + 1) (w.alloc (.cells #[.slice ia il ic, .slice (some ⟨pb, po, none⟩) pl pc] 25)) wr) (fun _ t _ => pl - (intOf t).toNat)
  case atStart => exact ⟨0, none, 0, Nat.zero_le _, rfl, rfl, ⟨rfl, Nat.le_refl _, by decide, .inl ⟨rfl, rfl⟩⟩, hbx⟩
  case round =>
    clear hbx
    obtain ⟨k, a, c, hk, rfl, rfl, hQ, hbel⟩ := hrel
    have HQ := Lib.hid hQ
    have hsz : w.heap.size + 1 ≤ wr.heap.size := by have := hbel.size; simpa using this
    clear hQ
    by_cases hlt : k < pl
    · have HQ9 : Hid (QueueAt (w.heap.size + 1) (wr.alloc (.cells #[.int .i64 (-1)] 3)) a k c (List.replicate k (-1))) := Lib.hid (HQ.out.keep (by simp) fun b hb => Below.heap_alloc _ _ _ (HQ.out.base b hb).2)
      have HZ9 : Hid ((wr.alloc (.cells #[.int .i64 (-1)] 3)).cell? ⟨wr.heap.size, 0, none⟩ = some (.int .i64 (-1))) := Lib.hid (World.cell?_alloc_new _ _ _ 0)
      have HS9 : Hid (w.heap.size + 1 ≤ (wr.alloc (.cells #[.int .i64 (-1)] 3)).heap.size) := Lib.hid (by simp; omega)
      have HL9 : Hid ((List.replicate k (-1 : Int)).length ≤ 1000000) := Lib.hid (by rw [List.length_replicate]; omega)
      have HB9 : Hid (Below (w.heap.size + 1) (w.alloc (.cells #[.slice ia il ic, .slice (some ⟨pb, po, none⟩) pl pc] 25)) (wr.alloc (.cells #[.int .i64 (-1)] 3))) := Lib.hid (hbel.alloc hsz _)
      go_wp2_with (at_builtin; refine wpList_append_queue rfl (.tmp 31) (.tmp 32) rfl a k c (List.replicate k (-1)) (-1) wr.heap.size 1 rfl rfl HQ9.out HZ9.out HS9.out HL9.out ?_; intro a' c' w9 hq9 hg9 hbk9)
      go_roundw
      case rel =>
        refine ⟨k + 1, a', c', by omega, by go_num, rfl, ?_, HB9.out.grown hg9 HS9.out (fun k hk => (HQ9.out.base k hk).1)⟩
        have e : List.replicate (k + 1) (-1 : Int) = List.replicate k (-1) ++ [-1] := by simp [List.replicate_succ']
        rw [e]
        exact hq9
      case measure => simp [intOf]; omega
    · obtain rfl : k = pl := by omega
      obtain ⟨b, o, rfl, hB, hbs, hce, hfr⟩ : ∃ b o, a = some ⟨b, o, none⟩ ∧ w.heap.size + 1 ≤ b ∧ b < wr.heap.size ∧ (∀ i, i < k → wr.cell? ⟨b, o + i, none⟩ = some (.int .i64 (-1))) ∧ ∀ i, i < k → wr.frozen? ⟨b, o + i, none⟩ = false := by
        obtain ⟨_, hlc, _, hq⟩ := HQ.out
        rcases hq with ⟨_, hc0⟩ | ⟨b, o, e, h2, h3, h4, h5⟩
        · omega
        · exact ⟨b, o, e, h2, h3, fun i hi => by rw [h4 i hi, idA_rep hi], fun i hi => (h5 i (by omega)).2⟩
      clear HQ
      have HR0 : Hid (RowAt wr b o k noneF) := Lib.hid ⟨hbs, fun i hi => ⟨hce i hi, hfr i hi⟩⟩
      have hs1 := hce s hs
      have hs2 := hfr s hs
      clear hce hfr
      have HR1 : Hid (RowAt (wr.setCell ⟨b, o + s, none⟩ (.int .i64 0)) b o k (levF G s 0)) := Lib.hid (by rw [levF_start]; exact HR0.out.set hs)
      have HB1 : Hid (Below (w.heap.size + 1) (w.alloc (.cells #[.slice ia il ic, .slice (some ⟨pb, po, none⟩) k pc] 25)) (wr.setCell ⟨b, o + s, none⟩ (.int .i64 0))) := Lib.hid (hbel.setCell hB _)
      go_wp2
      clear hs1 hs2 HR0 hbel hbs hsz
      go_loopw [8] (fun t wr => ∃ d : Nat, d + 1 ≤ k ∧ t = .int .i64 ((d : Int) + 1) ∧ RowAt wr b o k (levF G s d) ∧ Below (w.heap.size + 1) (w.alloc (.cells #[.slice ia il ic, .slice (some ⟨pb, po, none⟩) k pc] 25)) wr) (fun t _ => k + 1 - (intOf t).toNat)
      case atStart => exact ⟨0, by omega, by go_num, HR1.out, HB1.out⟩
      case round =>
        clear HR1 HB1
        obtain ⟨d, hd, rfl, hR, hbel⟩ := hrel
        have HR := Lib.hid hR
        clear hR
        by_cases hdlt : d + 1 < k
        · have hdi : (d : Int) + 1 < k := by omega
          go_wp2
          obtain ⟨wo, rfl⟩ : ∃ wo : World, wo = wr := ⟨_, rfl⟩
          go_loopw [9] (fun t wr => ∃ v : Nat, v ≤ k ∧ t = .int .i64 v ∧ RowAt wr b o k (stF G s d v) ∧ Below (w.heap.size + 1) (w.alloc (.cells #[.slice ia il ic, .slice (some ⟨pb, po, none⟩) k pc] 25)) wr) (fun t _ => k - (intOf t).toNat)
          case atStart => exact ⟨0, Nat.zero_le _, rfl, by rw [stF_start]; exact HR.out, hbel⟩
          case round =>
            clear hbel HR
            obtain ⟨v, hv, rfl, hR, hbel⟩ := hrel
            have HR := Lib.hid hR
            clear hR
            by_cases hvlt : v < k
            · have hvG : v < G.ps.length := by have := Hpl.out; omega
              obtain ⟨la, lc, hcl, hL⟩ := Hrow.out v hvG
              have HCL := Lib.hid hcl
              clear hcl
              have hlm := (HV.out.links v hvG).len hvG
              have hl24 : (rowA G.ps v).length < 24 := by have := HV.out.le; omega
              have HL := Lib.hid hL
              clear hL hlm
              go_wp2
              obtain ⟨wp, rfl⟩ : ∃ wo : World, wo = wr := ⟨_, rfl⟩
              go_loopw [10] (fun t wr => ∃ (i : Nat) (F : Nat → Int), i ≤ (rowA G.ps v).length ∧ t = .int .i64 i ∧ RowAt wr b o k F ∧ ((F = stF G s d (v + 1) ∧ 0 ≤ F v) ∨ (F = stF G s d v ∧ F v < 0 ∧ ∀ j, j < i → ∀ u : Nat, toA (rowA G.ps v) j = u → distF G s u ≠ d)) ∧ -1 ≤ F v ∧ F v ≤ 24 ∧ Below (w.heap.size + 1) (w.alloc (.cells #[.slice ia il ic, .slice (some ⟨pb, po, none⟩) k pc] 25)) wr) (fun t _ => (rowA G.ps v).length - (intOf t).toNat)
              case atStart =>
                have hlow := stF_low G s d v v
                by_cases h0 : 0 ≤ stF G s d v v
                · have he := stF_step (levF_known (by rw [stF_self] at h0; exact h0) : levF G s (d + 1) v = levF G s d v)
                  exact ⟨0, stF G s d v, Nat.zero_le _, rfl, HR.out, .inl ⟨he.symm, h0⟩, by omega, by omega, hbel⟩
                · exact ⟨0, stF G s d v, Nat.zero_le _, rfl, HR.out, .inr ⟨rfl, by omega, fun j hj => absurd hj (by omega)⟩, by omega, by omega, hbel⟩
              case round =>
                clear hbel HR
                obtain ⟨i, F, hi, rfl, hR, hF, hF1, hF2, hbel⟩ := hrel
                have HR := Lib.hid hR
                have HF := Lib.hid hF
                have hcv := (hR.2 v hvlt).1
                have hfv := (hR.2 v hvlt).2
                have hbs := hR.1
                clear hR hF
                have hb0 : wr.cell? ⟨w.heap.size, 0, none⟩ = some (.slice ia il ic) := boxed hbel 0
                have hb1 : wr.cell? ⟨w.heap.size, 1, none⟩ = some (.slice (some ⟨pb, po, none⟩) k pc) := boxed hbel 1
                have hcl := ((belBox hbel).cell (p := ⟨pb, po + v, none⟩) hpb).trans HCL.out
                by_cases hli : i < (rowA G.ps v).length
                · by_cases hF0 : F v < 0
                  · have hBF : Hid (F = stF G s d v ∧ ∀ j, j < i → ∀ u : Nat, toA (rowA G.ps v) j = u → distF G s u ≠ d) := Lib.hid (by
                      rcases HF.out with ⟨_, h⟩ | ⟨h, _, h2⟩
                      · omega
                      · exact ⟨h, h2⟩)
                    clear HF
                    obtain ⟨lb, lo, rfl, hlb, hcs⟩ := HL.out.row (by omega)
                    have hck := ((belBox hbel).cell (p := ⟨lb, lo + i * 2, none⟩) hlb).trans (hcs i hli).1
                    clear hcs
                    have hok := HV.out.links v hvG i hli
                    obtain ⟨u, hu⟩ : ∃ u : Nat, toA (rowA G.ps v) i = u := ⟨(toA (rowA G.ps v) i).toNat, by have := hok.1; omega⟩
                    have hul : u < k := by have := hok.1; have := Hpl.out; omega
                    have hui : (u : Int) < k := by omega
                    rw [hu] at hck
                    have Hu := Lib.hid hu
                    clear hok hu
                    have hcu := (HR.out.2 u hul).1
                    have hlow : -1 ≤ F u ∧ F u ≤ d + 1 := by rw [hBF.out.1]; exact stF_low G s d v u
                    obtain ⟨hlow1, hlow2⟩ := hlow
                    by_cases hhit : F u = d
                    · have hq : (F u == (d : Int) + 1 - 1) = true := by simp; omega
                      have hlev : levF G s (d + 1) v = (d : Int) + 1 := levF_hit HV.out hvG (by rw [← stF_self, ← hBF.out.1]; exact hF0) ⟨i, hli, Hu.out⟩ (by rw [hBF.out.1] at hhit; exact stF_at.1 hhit)
                      have HR2 : Hid (RowAt (wr.setCell ⟨b, o + v, none⟩ (.int .i64 ((d : Int) + 1))) b o k (stF G s d (v + 1))) := Lib.hid (by rw [stF_upd hlev, ← hBF.out.1]; exact HR.out.set hvlt)
                      have Hlev : Hid (stF G s d (v + 1) v = (d : Int) + 1) := Lib.hid (by unfold stF; rw [if_pos (Nat.lt_succ_self v)]; exact hlev)
                      have HB2 : Hid (Below (w.heap.size + 1) (w.alloc (.cells #[.slice ia il ic, .slice (some ⟨pb, po, none⟩) k pc] 25)) (wr.setCell ⟨b, o + v, none⟩ (.int .i64 ((d : Int) + 1)))) := Lib.hid (hbel.setCell hB _)
                      clear hhit hlev
                      go_wp2
                      go_roundw
                      case rel => exact ⟨i + 1, _, by omega, by go_num, HR2.out, .inl ⟨rfl, by rw [Hlev.out]; omega⟩, by rw [Hlev.out]; omega, by rw [Hlev.out]; omega, HB2.out⟩
                      case measure => simp [intOf]; omega
                    · have hq : (F u == (d : Int) + 1 - 1) = false := by simp; omega
                      have hne : Hid (∀ j, j < i + 1 → ∀ x : Nat, toA (rowA G.ps v) j = x → distF G s x ≠ d) := Lib.hid (fun j hj x hx hd2 => by
                        by_cases h3 : j < i
                        · exact hBF.out.2 j h3 x hx hd2
                        · rw [show j = i by omega, Hu.out] at hx
                          have : u = x := by omega
                          subst this
                          exact hhit (by rw [hBF.out.1]; exact stF_at.2 hd2))
                      clear hhit
                      go_wp2
                      go_roundw
                      case rel => exact ⟨i + 1, F, by omega, by go_num, HR.out, .inr ⟨hBF.out.1, hF0, hne.out⟩, hF1, hF2, hbel⟩
                      case measure => simp [intOf]; omega
                  · have HRn : Hid (RowAt wr b o k (stF G s d (v + 1))) := Lib.hid (by
                      rcases HF.out with ⟨h, _⟩ | ⟨h, h0, hn⟩
                      · rw [← h]; exact HR.out
                      · exact absurd h0 hF0)
                    clear HF
                    go_wp2
                    go_roundw
                    case rel => exact ⟨v + 1, by omega, by go_num, HRn.out, hbel⟩
                    case measure => simp [intOf]; omega
                · have HRn : Hid (RowAt wr b o k (stF G s d (v + 1))) := Lib.hid (by
                    rcases HF.out with ⟨h, _⟩ | ⟨h, h0, hn⟩
                    · rw [← h]; exact HR.out
                    · have h8 : levF G s d v < 0 := by rw [h, stF_self] at h0; exact h0
                      have h9 : levF G s (d + 1) v = levF G s d v := levF_miss HV.out hsG h8 (fun x ⟨j, hj, e⟩ => hn j (by omega) x e)
                      rw [stF_step h9, ← h]; exact HR.out)
                  clear HF
                  go_wp2
                  go_roundw
                  case rel => exact ⟨v + 1, by omega, by go_num, HRn.out, hbel⟩
                  case measure => simp [intOf]; omega
            · have HRe : Hid (RowAt wr b o k (levF G s (d + 1))) := Lib.hid ⟨HR.out.1, fun i hi => by
                have := HR.out.2 i hi
                rw [show v = k by omega, stF_end hi] at this
                exact this⟩
              go_wp2
              go_roundw
              case rel => exact ⟨d + 1, by omega, by go_num, HRe.out, hbel⟩
              case measure => simp [intOf]; omega
        · have HRe : Hid (RowAt wr b o k (distF G s)) := Lib.hid ⟨HR.out.1, fun i hi => by
            have := HR.out.2 i hi
            rw [levF_end HV.out hsG (by have := Hpl.out; omega)] at this
            exact this⟩
          go_wp2
          go_ret
          exact ⟨⟨_, _, rfl, .inr ⟨b, o, rfl, HRe.out⟩⟩, belBox hbel⟩
end Go.Proofs.Ytdclfhekmgnaiaa
