/- What the functions of package graph answer, sixth part: distances. -/
import Derived.Test.YtkffpipcjdhbaaaGraph5
import Derived.Test.YtkffpipcjdhbaaaQueue
import Derived.Test.YtkffpipcjdhbaaaDist
namespace Go.Proofs.Ytkffpipcjdhbaaa
open Go.RowKit

theorem MadeAt.keep {w w' : World} {b n : Nat} {f : Nat → Int} (h : MadeAt w b n f) (hs : w.heap.size ≤ w'.heap.size) (hk : w'.heap[b]? = w.heap[b]?) : MadeAt w' b n f :=
  ⟨Nat.lt_of_lt_of_le h.1 hs, fun i hi => by
    rw [World.cell?_of_block (w := w) (a := ⟨b, i, none⟩) hk, World.frozen?_of_block (w := w) (a := ⟨b, i, none⟩) hk]
    exact h.2 i hi⟩
theorem MadeAt.set {w : World} {b n : Nat} {f : Nat → Int} (h : MadeAt w b n f) {t : Nat} {x : Int} (ht : t < n) : MadeAt (w.setCell ⟨b, t, none⟩ (.int .i64 x)) b n (upd f t x) :=
  ⟨by simpa [World.setCell] using h.1, fun i hi => ⟨by
    by_cases e : i = t
    · subst e; rw [upd_same]; exact set_same (h.2 i hi).1
    · rw [upd_other e, set_other (by intro h; injection h; omega)]; exact (h.2 i hi).1, by rw [World.frozen?_setCell]; exact (h.2 i hi).2⟩⟩
theorem MadeAt.congr {w : World} {b n : Nat} {f g : Nat → Int} (h : MadeAt w b n f) (e : ∀ i, i < n → f i = g i) : MadeAt w b n g :=
  ⟨h.1, fun i hi => by rw [← e i hi]; exact h.2 i hi⟩

/-- a list of nodes as numbers -/
def asInts (l : List Nat) : List Int := l.map Int.ofNat
theorem asInts_len (l : List Nat) : (asInts l).length = l.length := List.length_map ..
theorem asInts_snoc (l : List Nat) (t : Nat) : asInts (l ++ [t]) = asInts l ++ [(t : Int)] := by simp [asInts]
theorem asInts_head (v : Nat) (l : List Nat) : idA (asInts (v :: l)) 0 = v := rfl
theorem asInts_tail (v : Nat) (l : List Nat) (i : Nat) : idA (asInts (v :: l)) (i + 1) = idA (asInts l) i := rfl

theorem QueueAt.tail1 {B : Nat} {w : World} {b o l : Nat} {x : Int} {qs : List Int} (h : QueueAt B w (some ⟨b, o, none⟩) l 1 (x :: qs)) : QueueAt B w (some ⟨b, o, none⟩) (l - 1) 0 qs := by
  obtain ⟨h1, h2, h3, h4⟩ := h
  simp at h1
  refine ⟨by omega, by omega, Nat.zero_le _, ?_⟩
  rcases h4 with ⟨h4, _⟩ | ⟨b', o', e, hB, hb, hc, hf⟩
  · cases h4
  · cases e
    exact .inr ⟨b, o, rfl, hB, hb, fun i hi => absurd hi (by omega), fun i hi => absurd hi (by omega)⟩

theorem QueueAt.tail {B : Nat} {w : World} {b o l c : Nat} {x : Int} {qs : List Int} (h : QueueAt B w (some ⟨b, o, none⟩) l c (x :: qs)) : QueueAt B w (some ⟨b, o + 1, none⟩) (l - 1) (c - 1) qs := by
  obtain ⟨h1, h2, h3, h4⟩ := h
  simp at h1
  refine ⟨by omega, by omega, by omega, ?_⟩
  rcases h4 with ⟨h4, _⟩ | ⟨b', o', e, hB, hb, hc, hf⟩
  · cases h4
  · cases e
    refine .inr ⟨b, o + 1, rfl, hB, hb, fun i hi => ?_, fun i hi => ?_⟩
    · have := hc (i + 1) (by omega)
      rw [show o + 1 + i = o + (i + 1) by omega]
      exact this
    · have := hf (i + 1) (by omega)
      rw [show o + 1 + i = o + (i + 1) by omega]
      exact this

theorem QueueAt.base {B : Nat} {w : World} {a : Option Addr} {l c : Nat} {qs : List Int} (h : QueueAt B w a l c qs) : ∀ k, blockOf a = some k → B ≤ k ∧ k < w.heap.size := by
  intro k hk
  rcases h.2.2.2 with ⟨rfl, _⟩ | ⟨b, o, rfl, hB, hb, _⟩
  · cases hk
  · cases hk; exact ⟨hB, hb⟩

set_option maxHeartbeats 4000000 in
theorem distances_any (ia pa : Option Addr) (il ic pl pc : Nat) (G : Gr) (s : Nat) (w : World) (hG : GraphAt w ia il pa pl G) (hV : ValidG G) (hs : s < pl) :
    Calls Try.prog 67 #[.agg #[.slice ia il ic, .slice pa pl pc], .int .i64 s] w fun e w' => (∃ blk, e = .returned (.slice (some ⟨blk, 0, none⟩) pl pl) ∧ w.heap.size ≤ blk ∧ MadeAt w' blk pl (distF G s)) ∧ Below w.heap.size w w' := by
  have Hpl := Lib.hid hG.pl
  have h24 : pl ≤ 24 := by have := hV.le; have := Hpl.out; omega
  have h1 : 1 ≤ pl := by omega
  obtain ⟨pb, po, rfl, hpb, hrow⟩ := hG.ports.row (by have := Hpl.out; omega)
  have Hrow := Lib.hid hrow
  have HV := Lib.hid hV
  clear hrow hV
  go_enter Try.func67, Try.ntmps67
  go_wp2_with fail
  refine (repeat_any _ _ _ pl (-1) _ h1 h24 (by simp) (by simp)).mono ?_
  rintro e w1 ⟨⟨fb, rfl, hfb, hM⟩, hb1⟩
  have hst1 := (hM.2 s hs).1
  have hst2 := (hM.2 s hs).2
  go_wp2
  have hfb : w.heap.size + 2 ≤ fb := by simpa using hfb
  have hbx : Below (w.heap.size + 1) (w.alloc (.cells #[.slice ia il ic, .slice (some ⟨pb, po, none⟩) pl pc] 26)) w1 := ((Below.refl _ _).alloc (by simp) _).trans (hb1.mono (by simp))
  have hM1 := (hM.set (x := 0) hs)
  have hM2 : MadeAt (w1.setCell ⟨fb, s, none⟩ (.int .i64 0)) fb pl (upd noneF s 0) := hM1
  have hfl := hM.1
  clear hst1 hst2 hM hM1 hb1
  have HM := Lib.hid hM2
  clear hM2
  go_loopg [6] 24 (fun k qv wr => ∃ qa ql qc Qs F, qv = .slice qa ql qc ∧ QueueAt (w.heap.size + 1) wr qa ql qc (asInts Qs) ∧ MadeAt wr fb pl F ∧ Bfs G s F Qs ∧ unl F pl + Qs.length ≤ k ∧ k ≤ 24 ∧ blockOf qa ≠ some fb ∧ Below (w.heap.size + 1) (w.alloc (.cells #[.slice ia il ic, .slice (some ⟨pb, po, none⟩) pl pc] 26)) wr)
  case atStart =>
    refine ⟨_, _, _, [s], upd noneF s 0, rfl, ?_, ?_, ?_, ?_, Nat.le_refl _, ?_, ?_⟩
    · refine ⟨rfl, Nat.le_refl _, by unfold maxLen; omega, .inr ⟨_, 0, rfl, ?_, ?_, fun i hi => ?_, fun i hi => ?_⟩⟩
      · have := hbx.size; simp at this; omega
      · simp
      · have e : (w1.setCell ⟨fb, s, none⟩ (.int .i64 0)).heap.size = w1.heap.size := by simp [World.setCell]
        rw [show i = 0 by omega, ← e]
        exact World.cell?_alloc_new _ _ _ 0
      · have e : (w1.setCell ⟨fb, s, none⟩ (.int .i64 0)).heap.size = w1.heap.size := by simp [World.setCell]
        rw [show i = 0 by omega, ← e]
        exact ⟨by rw [World.cell?_alloc_new]; rfl, World.frozen?_alloc_new _ _ _ _⟩
    · exact HM.out.keep (by simp) (Below.heap_alloc _ _ _ (by simpa [World.setCell] using hfl))
    · exact Bfs.init (by have := Hpl.out; omega)
    · have := Bfs.start_len (G := G) (s := s) (by have := Hpl.out; omega)
      rw [← Hpl.out] at this
      simp; omega
    · simp [blockOf]; omega
    · exact ((hbx.setCell (by show w.heap.size + 1 ≤ fb; omega) _).alloc (by have := hbx.size; simp at this; simp [World.setCell]; omega) _)
  case round =>
    obtain ⟨qa, ql, qc, Qs, F, rfl, hq, hM, hB, hk, hk24, hne, hbel⟩ := hrel
    have hq' := hq
    obtain ⟨hq1, hq2, hq3, hq4⟩ := hq
    rw [asInts_len] at hq1
    cases Qs with
    | nil =>
      have HF := Lib.hid (hM.congr fun i hi => hB.final HV.out (by have := Hpl.out; omega) (v := i) (by have := Hpl.out; omega))
      have hq0 : ql = 0 := by simpa using hq1
      subst hq0
      clear hq1 hq4 hM hB hq'
      go_wp2
      go_ret
      exact ⟨⟨fb, rfl, by omega, HF.out⟩, belBox hbel⟩
    | cons v Q =>
      rcases hq4 with ⟨_, h0⟩ | ⟨qb, qo, rfl, hqB, hqlt, hqc, hqf⟩
      · exact absurd hq1 (by simp; omega)
      have hqv := hqc 0 (by simp at hq1; omega)
      have hql : 1 ≤ ql := by simp at hq1; omega
      clear hq1
      rw [asInts_head, Nat.add_zero] at hqv
      have hql' : (0 : Int) < ql := by omega
      have hqd : decide (0 < ql) = true := by simp; omega
      have hqlm : (ql : Int) ≤ 9223372036854775807 := by unfold maxLen at hq3; omega
      have HQ := Lib.hid hq'
      have HM := Lib.hid hM
      have HB := Lib.hid hB
      have hvl := (hB.inQ v (List.mem_cons_self ..)).1
      clear hqc hqf hM hB hq'
      have hvl' : v < pl := by have := Hpl.out; omega
      obtain ⟨la, lc, hcl, hL⟩ := Hrow.out v hvl
      have HCL := Lib.hid hcl
      have hcl := ((belBox hbel).cell (p := ⟨pb, po + v, none⟩) hpb).trans hcl
      have HL := Lib.hid hL
      have hlm := hL.size
      unfold maxLen at hlm
      have hb1 : wr.cell? ⟨w.heap.size, 1, none⟩ = some (.slice (some ⟨pb, po, none⟩) pl pc) := boxed hbel 1
      clear hL
      by_cases hqc1 : qc = 1
      all_goals try subst hqc1
      all_goals
        go_wp2
        obtain ⟨wo, rfl⟩ : ∃ wo : World, wo = wr := ⟨_, rfl⟩
        go_loopw [6, 34] (fun qv t wr => ∃ i qa ql qc Qs F, t = .int .i64 (i : Nat) ∧ i ≤ (rowA G.ps v).length ∧ qv = .slice qa ql qc ∧ QueueAt (w.heap.size + 1) wr qa ql qc (asInts Qs) ∧ MadeAt wr fb pl F ∧ BfsIn G s F Qs v i ∧ unl F pl + Qs.length + 1 ≤ gk ∧ blockOf qa ≠ some fb ∧ Below (w.heap.size + 1) (w.alloc (.cells #[.slice ia il ic, .slice (some ⟨pb, po, none⟩) pl pc] 26)) wr) (fun _ t _ => (rowA G.ps v).length - (intOf t).toNat)
        case atStart =>
          refine ⟨0, _, _, _, Q, F, rfl, Nat.zero_le _, rfl, ?_, HM.out, HB.out.pop, by simp at hk; omega, hne, hbel⟩
          first | (have h9 := HQ.out.tail1; rw [show ql - 1 = 0 from by omega] at h9; exact h9) | exact HQ.out.tail1 | exact HQ.out.tail
        case round =>
          clear hbel hql hql' hqlm hqv hcl hb1 hqlt hqB hk
          obtain ⟨i, qa, ql2, qc2, Qs, F2, rfl, hi, rfl, hq, hM, hB, hk2, hne2, hbel⟩ := hrel
          have HQ2 := Lib.hid hq
          have HM2 := Lib.hid hM
          have HB2 := Lib.hid hB
          clear hq hM hB
          by_cases hlt : i < (rowA G.ps v).length
          · obtain ⟨lb, lo, rfl, hlb, hcs⟩ := (HL.out.below (belBox hbel)).row (by omega)
            have hck1 := (hcs i hlt).1
            have hck2 := (hcs i hlt).2
            clear hcs
            have hok := HV.out.links v hvl i hlt
            obtain ⟨d, hd⟩ : ∃ d : Nat, toA (rowA G.ps v) i = d := ⟨(toA (rowA G.ps v) i).toNat, by have := hok.1; omega⟩
            have hdl : d < G.ps.length := by have := hok.1; omega
            have hdl' : d < pl := by have := Hpl.out; omega
            have hdi : (d : Int) < pl := by omega
            have hvi : (v : Int) < pl := by omega
            rw [hd] at hck1
            have Hd := Lib.hid hd
            clear hd hok
            have hfd := (HM2.out.2 d hdl').1
            have hz1 : w.heap.size < wr.heap.size := by have := hbel.size; simp at this; omega
            have hz2 : fb < wr.heap.size := HM2.out.1
            by_cases h0 : F2 d < 0
            · have hfv := (HM2.out.2 v hvl').1
              have hff := (HM2.out.2 d hdl').2
              have hv0 := HB2.out.here.2
              have hv1 : F2 v ≤ 24 := by have := HB2.out.cap v hvl; have := HV.out.le; omega
              have hlt9 : w.heap.size + 1 ≤ wr.heap.size := by omega
              have HQ9 : Hid (QueueAt (w.heap.size + 1) ((((wr.setCell ⟨fb, d, none⟩ (.int .i64 (F2 v + 1))).alloc (.cells #[.int .i64 d, .int .i64 (wtA (rowA G.ps v) i)] 50)).alloc (.cells #[.int .i64 d] 3)).drew) qa ql2 qc2 (asInts Qs)) := Lib.hid (HQ2.out.keep (by simp [World.setCell]; omega) fun b hb => by
                have h1 := (HQ2.out.base b hb).2
                have h2 : b ≠ fb := fun e => hne2 (by rw [hb, e])
                show ((((wr.setCell ⟨fb, d, none⟩ (.int .i64 (F2 v + 1))).alloc (.cells #[.int .i64 d, .int .i64 (wtA (rowA G.ps v) i)] 50)).alloc (.cells #[.int .i64 d] 3))).heap[b]? = _
                rw [Below.heap_alloc _ _ _ (by simp [World.setCell]; omega), Below.heap_alloc _ _ _ (by simp [World.setCell]; omega), Below.heap_setCell _ _ _ _ h2])
              have HM9 : Hid (MadeAt ((((wr.setCell ⟨fb, d, none⟩ (.int .i64 (F2 v + 1))).alloc (.cells #[.int .i64 d, .int .i64 (wtA (rowA G.ps v) i)] 50)).alloc (.cells #[.int .i64 d] 3)).drew) fb pl (upd F2 d (F2 v + 1))) := Lib.hid ((HM2.out.set (t := d) (x := F2 v + 1) hdl').keep (by simp [World.setCell]; omega) (by
                show ((((wr.setCell ⟨fb, d, none⟩ (.int .i64 (F2 v + 1))).alloc (.cells #[.int .i64 d, .int .i64 (wtA (rowA G.ps v) i)] 50)).alloc (.cells #[.int .i64 d] 3))).heap[fb]? = _
                rw [Below.heap_alloc _ _ _ (by simp [World.setCell]; omega), Below.heap_alloc _ _ _ (by simp [World.setCell]; omega)]))
              have HB9 : Hid (Below (w.heap.size + 1) (w.alloc (.cells #[.slice ia il ic, .slice (some ⟨pb, po, none⟩) pl pc] 26)) ((((wr.setCell ⟨fb, d, none⟩ (.int .i64 (F2 v + 1))).alloc (.cells #[.int .i64 d, .int .i64 (wtA (rowA G.ps v) i)] 50)).alloc (.cells #[.int .i64 d] 3)).drew)) := Lib.hid ((((hbel.setCell (by show w.heap.size + 1 ≤ fb; omega) _).alloc (by simp [World.setCell]; omega) _).alloc (by simp [World.setCell]; omega) _).drew)
              have HZ9 : Hid (((((wr.setCell ⟨fb, d, none⟩ (.int .i64 (F2 v + 1))).alloc (.cells #[.int .i64 d, .int .i64 (wtA (rowA G.ps v) i)] 50)).alloc (.cells #[.int .i64 d] 3)).drew).cell? ⟨wr.heap.size + 1, 0, none⟩ = some (.int .i64 d)) := Lib.hid (by rw [World.cell?_drew, show wr.heap.size + 1 = ((wr.setCell ⟨fb, d, none⟩ (.int .i64 (F2 v + 1))).alloc (.cells #[.int .i64 d, .int .i64 (wtA (rowA G.ps v) i)] 50)).heap.size from by simp [World.setCell]]; exact World.cell?_alloc_new _ _ _ 0)
              have hS9 : w.heap.size + 1 ≤ ((((wr.setCell ⟨fb, d, none⟩ (.int .i64 (F2 v + 1))).alloc (.cells #[.int .i64 d, .int .i64 (wtA (rowA G.ps v) i)] 50)).alloc (.cells #[.int .i64 d] 3)).drew).heap.size := by simp [World.setCell]; omega
              have HS9 := Lib.hid hS9
              have hL9 : (asInts Qs).length ≤ 1000000 := by rw [asInts_len]; omega
              have HL9 := Lib.hid hL9
              clear hS9 hL9
              go_wp2
              go_region
              go_wp2_with (at_builtin; refine wpList_append_queue rfl (.tmp 53) (.tmp 56) rfl qa ql2 qc2 (asInts Qs) d (wr.heap.size + 1) 1 rfl rfl HQ9.out HZ9.out HS9.out HL9.out ?_; intro a' c' w9 hq9 hg9 hbk9)
              have hbel9 := HB9.out.grown hg9 HS9.out (fun k hk => (HQ2.out.base k hk).1)
              have HM10 := Lib.hid (HM9.out.keep hg9.size (hg9.block fb HM9.out.1 (fun e => hne2 e.symm)))
              go_roundw
              case rel =>
                refine ⟨i + 1, a', ql2 + 1, c', Qs ++ [d], upd F2 d (F2 v + 1), by go_num, by omega, rfl, ?_, HM10.out, HB2.out.push hlt Hd.out hdl h0, ?_, ?_, hbel9⟩
                · rw [asInts_snoc]; exact hq9
                · have := unl_upd (F := F2) (x := F2 v + 1) hdl' h0 (by omega)
                  simp; omega
                · rcases hbk9 with e | ⟨b, e, hb⟩
                  · rw [e]; exact hne2
                  · rw [e]; intro h; cases h; simp [World.setCell] at hb; omega
              case measure => simp [intOf]; omega
            · go_wp2
              go_roundw
              case rel =>
                refine ⟨i + 1, qa, ql2, qc2, Qs, F2, by go_num, by omega, rfl, HQ2.out.keep (by simp) fun b hb => Below.heap_alloc _ _ _ (HQ2.out.base b hb).2, HM2.out.keep (by simp) (Below.heap_alloc _ _ _ hz2), HB2.out.skip Hd.out hdl (by omega), hk2, hne2, hbel.alloc (by omega) _⟩
              case measure => simp [intOf]; omega
          · have HB3 : Hid (Bfs G s F2 Qs) := Lib.hid (by
              have h9 := HB2.out
              rw [show i = (rowA G.ps v).length by omega] at h9
              exact h9.close)
            go_wp2
            go_roundg (gk - 1)
            case measure => omega
            case rel => exact ⟨qa, ql2, qc2, Qs, F2, rfl, HQ2.out, HM2.out, HB3.out, by omega, by omega, hne2, hbel⟩
end Go.Proofs.Ytkffpipcjdhbaaa
