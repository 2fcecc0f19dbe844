/- A struct about cloned numbers and copied rows. -/
import Derived.Test.YtfbbkiibhdgojaaClone
namespace Go.Proofs.Ytfbbkiibhdgojaa
open Go.RowKit

/-- one row more, made behind w -/
theorem Apart.addNew {B : Nat} {w w' : World} {rs : List Rw} {r : Rw} (h : Apart B w rs) (hb : Below w.heap.size w w') (hB : B ≤ w.heap.size) (ho : r.Held w.heap.size w') : Apart B w' (rs ++ [r]) := by
  have h' : Apart B w' rs := h.far (row := none) ⟨hb.os, hb.tape, hb.output, hb.size, fun k hk _ => hb.block k hk⟩ (fun _ _ => own_ne)
  refine ⟨fun x hx => ?_, ?_⟩
  · rcases List.mem_append.1 hx with hx | hx
    · exact h'.own x hx
    · obtain rfl : x = r := by simpa using hx
      exact Go.Joins.ownsRow_le ho hB
  · rw [List.pairwise_append]
    refine ⟨h'.sep, by simp, fun x hx y hy => ?_⟩
    obtain rfl : y = r := by simpa using hy
    unfold apartV
    cases hv : x.v.ownBlock with
    | none => exact .inl rfl
    | some k =>
      refine .inr fun e => ?_
      have h1 := (World.ownsRow.lt (h.own x hx) k hv).2
      have h2 := (World.ownsRow.lt ho k e.symm).1
      omega
/-- a header is stored -/
theorem Apart.header {B : Nat} {w : World} {hb n cap : Nat} {hs : List Value} {rs : List Rw} (h : Apart B w (hdrR (.slice (some ⟨hb, 0, none⟩) n cap) hs :: rs)) (hn : n = hs.length) (i : Nat) (u : Value) :
    Apart B (w.setCell ⟨hb, i, none⟩ u) (hdrR (.slice (some ⟨hb, 0, none⟩) n cap) (hs.set i u) :: rs) := by
  subst hn
  have hh : w.ownsRow B 38 1 (.slice (some ⟨hb, 0, none⟩) hs.length cap) hs.length hs := h.own (hdrR _ hs) (by simp)
  obtain ⟨hs1, hg⟩ := World.ownsRow.stored hh i u
  have el : (hs.set i u).length = hs.length := by simp
  have h0 : Apart B w ([] ++ hdrR (.slice (some ⟨hb, 0, none⟩) hs.length cap) hs :: rs) := h
  exact h0.turn (r' := hdrR (.slice (some ⟨hb, 0, none⟩) hs.length cap) (hs.set i u)) hg (by unfold Rw.Held hdrR; rw [el]; exact hs1) (fun g e => .inl e)
theorem Apart.hdrAt {B : Nat} {w : World} {hb n cap : Nat} {hs : List Value} {rs : List Rw} (h : Apart B w (hdrR (.slice (some ⟨hb, 0, none⟩) n cap) hs :: rs)) (hn : hs.length = n) {i : Nat} {u : Value} (hi : hs[i]? = some u) : w.cell? ⟨hb, i, none⟩ = some u ∧ w.frozen? ⟨hb, i, none⟩ = false := by
  subst hn
  have hh : w.ownsRow B 38 1 (.slice (some ⟨hb, 0, none⟩) hs.length cap) hs.length hs := h.own (hdrR _ hs) (by simp)
  have h1 := own_cell hh hi
  rw [Nat.zero_add] at h1
  exact ⟨h1, World.ownsRow.frozenAt hh i⟩
theorem headers_set (us : List (Value × List (Int × Int))) (n k : Nat) (hk : us.length = k) (hlt : k < n) (u : Value) (xs : List (Int × Int)) :
    (us.map Prod.fst ++ List.replicate (n - k) (Value.slice none 0 0)).set k u = (us ++ [(u, xs)]).map Prod.fst ++ List.replicate (n - (k + 1)) (Value.slice none 0 0) := by
  subst hk
  rw [List.set_append_right _ _ (by simp)]
  obtain ⟨m, hm⟩ : ∃ m, n - us.length = m + 1 := ⟨n - us.length - 1, by omega⟩
  rw [hm, show n - (us.length + 1) = m by omega, List.replicate_succ]
  simp

theorem headers_at (us : List (Value × List (Int × Int))) (n k : Nat) (hk : us.length = k) (hlt : k < n) : (us.map Prod.fst ++ List.replicate (n - k) (Value.slice none 0 0))[k]? = some (.slice none 0 0) := by
  subst hk
  obtain ⟨m, hm⟩ : ∃ m, n - us.length = m + 1 := ⟨n - us.length - 1, by omega⟩
  rw [List.getElem?_append_right (by simp), hm, List.replicate_succ]
  simp
set_option maxHeartbeats 2000000 in
theorem copies_any (pa : Option Addr) (pl pc : Nat) (ps : List (List (Int × Int))) (w : World) (hP : PortsAt w pa ps) (hpl : pl = ps.length) (hp : pl ≤ 1000) (hr : ∀ v, v < pl → (rowA ps v).length ≤ 1000) :
    Calls Try.prog 20 #[.slice pa pl pc] w fun e w' => (∃ (a2 : Option Addr) (c2 : Nat) (us : List (Value × List (Int × Int))), e = .returned (.slice a2 pl c2) ∧ us.length = pl ∧ us.map Prod.snd = ps ∧
      Apart w.heap.size w' (hdrR (.slice a2 pl c2) (us.map Prod.fst) :: us.map lnkR)) ∧ Below w.heap.size w w' := by
  obtain ⟨j0, hj, hy0, hy1, hy2⟩ := info_parts infoHdr
  have HP := Lib.hid hP
  have Hpl := Lib.hid hpl
  have HR := Lib.hid hr
  clear hP hpl hr
  go_enter Try.func20, Try.ntmps20
  go_wp2_with (at_make; refine wpList_make_full _ rfl (.tmp 7) (.tmp 7) 23 rfl w.heap.size 38 j0 (.slice none 0 0) 1 Try.underlying23 hj hy0 hy1 .i64 .i64 _ _ pl rfl rfl rfl rfl (by rw [hy2]; omega) (by unfold maxLen; omega) (by simp) ?_; intro w1 hown hgrow)
  have hA0 : Apart w.heap.size w1 (hdrR (.slice (some ⟨w.heap.size, 0, none⟩) pl pl) ((([] : List (Value × List (Int × Int))).map Prod.fst) ++ List.replicate (pl - 0) (.slice none 0 0)) :: ([] : List (Value × List (Int × Int))).map lnkR) := by
    refine ⟨fun r hr => ?_, by simp⟩
    obtain rfl : r = _ := by simpa using hr
    unfold Rw.Held hdrR
    simp only [List.length_replicate]
    rw [show (Value.slice none 0 0).cells = #[.slice none 0 0] from rfl, toList_madeCells_one, Nat.mul_one] at hown
    exact hown
  have hB0 : Below w.heap.size w w1 := ⟨hgrow.os, hgrow.tape, hgrow.output, hgrow.size, fun k hk => hgrow.block k hk (by simp)⟩
  have HA0 := Lib.hid hA0
  have HB0 := Lib.hid hB0
  clear hA0 hB0 hown hgrow
  obtain ⟨hb, hhb⟩ : ∃ hb, hb = w.heap.size := ⟨_, rfl⟩
  have HA1 : Hid (Apart w.heap.size w1 (hdrR (.slice (some ⟨hb, 0, none⟩) pl pl) ((([] : List (Value × List (Int × Int))).map Prod.fst) ++ List.replicate (pl - 0) (.slice none 0 0)) :: ([] : List (Value × List (Int × Int))).map lnkR)) := Lib.hid (by rw [hhb]; exact HA0.out)
  have hbge : w.heap.size ≤ hb := by omega
  rw [← hhb]
  clear hhb HA0
  go_loopw [11] (fun t wr => ∃ (k : Nat) (us : List (Value × List (Int × Int))), t = .int .i64 k ∧ k ≤ pl ∧ us.length = k ∧ us.map Prod.snd = ps.take k ∧ Apart w.heap.size wr (hdrR (.slice (some ⟨hb, 0, none⟩) pl pl) (us.map Prod.fst ++ List.replicate (pl - k) (.slice none 0 0)) :: us.map lnkR) ∧ Below w.heap.size w wr) (fun t _ => pl - (intOf t).toNat)
  case atStart => exact ⟨0, [], rfl, Nat.zero_le _, rfl, rfl, HA1.out, HB0.out⟩
  case round =>
    clear HA1 HB0
    obtain ⟨k, us, rfl, hk, hul, hus, hA, hB⟩ := hrel
    have HA := Lib.hid hA
    have HB := Lib.hid hB
    have HUS := Lib.hid hus
    have HUL := Lib.hid hul
    have hsz := hB.size
    by_cases hlt : k < pl
    · obtain ⟨pb, po, rfl, hpb, hrow⟩ := (HP.out.below HB.out).row (by rw [← Hpl.out]; omega)
      obtain ⟨la, lc, hcell, hL⟩ := hrow k (by rw [← Hpl.out]; exact hlt)
      have hrl := HR.out k hlt
      have HL := Lib.hid hL
      have hhl : (us.map Prod.fst ++ List.replicate (pl - k) (Value.slice none 0 0)).length = pl := by simp [hul]; omega
      have hown : wr.ownsRow w.heap.size 38 1 (.slice (some ⟨hb, 0, none⟩) pl pl) (us.map Prod.fst ++ List.replicate (pl - k) (Value.slice none 0 0)).length (us.map Prod.fst ++ List.replicate (pl - k) (Value.slice none 0 0)) := hA.own (hdrR _ _) (by simp)
      have HH := Lib.hid hhl
      clear hrow hL hA hB hus hul hhl hown
      obtain ⟨m, hm⟩ : ∃ m, m = (rowA ps k).length := ⟨_, rfl⟩
      rw [← hm] at hcell hrl
      have Hm := Lib.hid hm
      clear hm
      go_wp2_with (go_at_call 35; go_must (refine (cloneL_any la lc (rowA ps k) m Hm.out _ HL.out (by omega)).mono ?_; rintro e w2 ⟨⟨a', c', rfl, ho⟩, hb2⟩); go_must (have hA2 := HA.out.addNew (r := lnkR (.slice a' m c', rowA ps k)) hb2 hsz (by unfold Rw.Held lnkR; rw [Hm.out] at ho ⊢; exact ho)); go_must (obtain ⟨f1, f0⟩ := hA2.hdrAt HH.out (i := k) (u := .slice none 0 0) (headers_at us pl k HUL.out hlt)); have HA2 := Lib.hid hA2; have HB2 := Lib.hid hb2; clear hA2 hb2 ho)
      have hA4 := HA2.out.header (by rw [HH.out]) k (.slice a' m c')
      rw [headers_set us pl k HUL.out hlt (.slice a' m c') (rowA ps k)] at hA4
      have HA4 := Lib.hid hA4
      clear hA4
      go_roundw
      case rel =>
        refine ⟨k + 1, us ++ [(.slice a' m c', rowA ps k)], by go_num, hlt, by simp [HUL.out], ?_, ?_, (HB.out.trans (HB2.out.mono hsz)).setCell hbge _⟩
        · rw [List.map_append, HUS.out, List.take_succ_eq_append_getElem (by rw [← Hpl.out]; exact hlt)]
          simp [rowA, List.getD, List.getElem?_eq_getElem (show k < ps.length by rw [← Hpl.out]; exact hlt)]
        · simpa using HA4.out
      case measure => simp [intOf]; omega
    · obtain rfl : k = pl := by omega
      clear hA hB hus hul
      go_wp2
      go_ret
      refine ⟨⟨some ⟨hb, 0, none⟩, k, us, rfl, HUL.out, ?_, ?_⟩, HB.out⟩
      · rw [HUS.out, Hpl.out, List.take_length]
      · have := HA.out
        rw [Nat.sub_self, List.replicate_zero, List.append_nil] at this
        exact this
end Go.Proofs.Ytfbbkiibhdgojaa
namespace Go.Proofs.Ytfbbkiibhdgojaa
open Go.RowKit

theorem Apart.notAt {B : Nat} {w : World} {rs : List Rw} {gb : Nat} (h : Apart B w rs) (hg : gb < B ∨ w.heap.size ≤ gb) : ∀ r ∈ rs, r.v.ownBlock ≠ some gb := fun r hr e => by
  have := World.ownsRow.lt (h.own r hr) gb e
  omega
theorem Rw.notAt {B : Nat} {w : World} {r : Rw} {gb : Nat} (h : r.Held B w) (hg : gb < B ∨ w.heap.size ≤ gb) : r.v.ownBlock ≠ some gb := fun e => by
  have := World.ownsRow.lt h gb e
  omega
theorem grown_below {w w' : World} (hb : Below w.heap.size w w') : w.grownBy w' none := ⟨hb.os, hb.tape, hb.output, hb.size, fun k hk _ => hb.block k hk⟩
theorem made_two {W wA wB w : World} {gb BA BB : Nat} {v1 v2 u0 u1 x1 x2 : Value} {zs : List Int} {hs : List Value} {us : List (Value × List (Int × Int))} (o1 : (idsR v1 zs).Held BA wA) (hBA : W.heap.size ≤ BA) (hab : Below wA.heap.size wA w)
    (o2 : Apart BB wB (hdrR v2 hs :: us.map lnkR)) (hBB : wA.heap.size ≤ BB) (hbw : Below wB.heap.size wB w) (hW : Below W.heap.size W w) (hAW : W.heap.size ≤ wA.heap.size) (hg : W.heap.size ≤ gb)
    (n1 : (idsR v1 zs).v.ownBlock ≠ some gb) (n2 : ∀ r ∈ hdrR v2 hs :: us.map lnkR, r.v.ownBlock ≠ some gb)
    (c0 : w.cell? ⟨gb, 0, none⟩ = some u0) (d0 : w.cell? ⟨gb, 1, none⟩ = some u1) (f0 : w.frozen? ⟨gb, 0, none⟩ = false) (f1 : w.frozen? ⟨gb, 1, none⟩ = false) :
    Made W gb ((w.setCell ⟨gb, 0, none⟩ x1).setCell ⟨gb, 1, none⟩ x2) x1 x2 v1 zs v2 hs us := by
  have h1 : (idsR v1 zs).Held W.heap.size w := Go.Joins.ownsRow_le (World.ownsRow.kept o1 (grown_below hab) own_ne) hBA
  have h2 : Apart W.heap.size w (hdrR v2 hs :: us.map lnkR) := (o2.far (grown_below hbw) (fun _ _ => own_ne)).mono (by omega)
  have hA : Apart W.heap.size w (idsR v1 zs :: hdrR v2 hs :: us.map lnkR) := by
    refine ⟨fun r hr => ?_, List.pairwise_cons.2 ⟨fun x hx => ?_, h2.sep⟩⟩
    · rcases List.mem_cons.1 hr with rfl | hr
      · exact h1
      · exact h2.own r hr
    · unfold apartV
      cases hv : (idsR v1 zs).v.ownBlock with
      | none => exact .inl rfl
      | some k =>
        refine .inr fun e => ?_
        have k1 := (World.ownsRow.lt o1 k hv).2
        have k2 := (World.ownsRow.lt (o2.own x hx) k e.symm).1
        omega
  have hM : Made W gb w u0 u1 v1 zs v2 hs us := ⟨hW, hg, c0, d0, f0, f1, hA, fun r hr => by
    rcases List.mem_cons.1 hr with rfl | hr
    · exact n1
    · exact n2 r hr⟩
  exact (hM.put0 _).put1 _
end Go.Proofs.Ytfbbkiibhdgojaa
