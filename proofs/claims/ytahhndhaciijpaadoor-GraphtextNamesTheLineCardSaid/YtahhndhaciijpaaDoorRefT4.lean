/- What node of the specification of layer 2 answers. -/
import Derived.Test.YtahhndhaciijpaaDoorRefT3
namespace Go.Proofs.YtahhndhaciijpaaDoor
open Go.RowKit

theorem number_at (l : Bytes) (w : World) :
    Calls Tryd.prog 39 #[.string ⟨l.toArray⟩] w fun e w' => e = .returned (.tuple #[.int .i64 (numI l), .bool (numK l)]) ∧ w = w' := by
  refine (number_any ⟨l.toArray⟩ w).mono ?_
  rintro e w' ⟨rfl, rfl⟩
  exact ⟨rfl, rfl⟩
theorem split_here (l : Bytes) (c : UInt8) (w : World) (hs : l.length ≤ 1000000) :
    Calls Tryd.prog 31 #[.string ⟨l.toArray⟩, .int .u8 (c.toNat : Int)] w fun e w' => (∃ b cap, e = .returned (.slice (some ⟨b, 0, none⟩) (splitB c l).length cap) ∧ (splitB c l).length ≤ cap ∧ cap ≤ maxLen ∧ w.heap.size ≤ b ∧ StrsAt w' (some ⟨b, 0, none⟩) (splitB c l)) ∧ Below w.heap.size w w' :=
  splitAll_any ⟨l.toArray⟩ c w (by simpa [ByteArray.size] using hs)

theorem split_short (c : UInt8) : ∀ (l : Bytes) (w : Bytes), w ∈ splitB c l → w.length ≤ l.length
  | [], w, h => by simp [splitB] at h; rw [h]; simp
  | x :: l, w, h => by
    by_cases hx : x = c
    · rw [hx, split_at] at h
      rcases List.mem_cons.1 h with rfl | h
      · simp
      · have := split_short c l w h; simp; omega
    · rw [split_other hx] at h
      obtain ⟨v, vs, e⟩ := split_cons c l
      rw [e] at h
      simp [preHead] at h
      rcases h with rfl | h
      · have := split_short c l v (by rw [e]; simp)
        simp; omega
      · have := split_short c l w (by rw [e]; simp [h])
        simp; omega
theorem word_mem {ws : List Bytes} {i : Nat} (h : i < ws.length) : wordA ws i ∈ ws := by
  unfold wordA
  simp [List.getD, List.getElem?_eq_getElem h]
theorem word_short {c : UInt8} {l : Bytes} {i : Nat} (h : i < (splitB c l).length) : (wordA (splitB c l) i).length ≤ l.length := split_short c l _ (word_mem h)

theorem ports_snoc {p : Port} {x : Bytes} (hx : portB x = some p) : ∀ {l : List Bytes} {qs : List Port}, portsB l = some qs → portsB (l ++ [x]) = some (qs ++ [p])
  | [], qs, h => by
    have : qs = [] := by simpa [portsB] using h.symm
    rw [this]
    simp [portsB, hx]
  | y :: l, qs, h => by
    unfold portsB at h
    split at h
    · rename_i q rs hq hr
      have e : q :: rs = qs := by simpa using h
      have := ports_snoc hx hr
      rw [List.cons_append, portsB, hq, this, ← e]
      rfl
    · cases h
theorem ports_bad {x : Bytes} (hx : portB x = none) : ∀ {l : List Bytes}, x ∈ l → portsB l = none
  | [], h => by simp at h
  | y :: l, h => by
    unfold portsB
    rcases List.mem_cons.1 h with rfl | h
    · rw [hx]
    · rw [ports_bad hx h]
      split
      · rename_i h1 h2; cases h2
      · rfl
theorem num_of {l : Bytes} (h : numK l = true) : ∃ n : Nat, numB l = some n ∧ numI l = n ∧ n < 1000000 := by
  unfold numK at h
  obtain ⟨n, hn⟩ := Option.isSome_iff_exists.1 h
  exact ⟨n, hn, by unfold numI; rw [hn], num_lt hn⟩
theorem num_off {l : Bytes} (h : numK l = false) : numB l = none := by
  unfold numK at h
  cases hn : numB l with
  | none => rfl
  | some n => rw [hn] at h; cases h
theorem two_words {xs : List Bytes} (h : xs.length = 2) : xs = [wordA xs 0, wordA xs 1] := by
  match xs, h with
  | [a, b], _ => rfl
theorem port_two {x : Bytes} (h : (splitB 47 x).length = 2) : portB x = match numB (wordA (splitB 47 x) 0), numB (wordA (splitB 47 x) 1) with
    | some t, some w => some (t, w)
    | _, _ => none := by
  unfold portB
  rw [two_words h]
  rfl
theorem port_not {x : Bytes} (h : (splitB 47 x).length ≠ 2) : portB x = none := by
  unfold portB
  split
  · rename_i a b e
    rw [e] at h
    exact absurd rfl h
  · rfl
theorem line_short {l : Bytes} (h : (splitB 32 l).length < 2) : lineB l = none := by
  unfold lineB
  split
  · rename_i k i ps e
    rw [e] at h
    simp at h
    omega
  · rfl
theorem line_of {l : Bytes} (h : 2 ≤ (splitB 32 l).length) : lineB l = if wordA (splitB 32 l) 0 = nodeW then match numB (wordA (splitB 32 l) 1), portsB ((splitB 32 l).drop 2) with
      | some id, some p => some (id, p)
      | _, _ => none
    else none := by
  unfold lineB
  match hs : splitB 32 l, h with
  | k :: i :: ps, _ => rfl

def linkCells (ps : List Port) : List Value := ps.flatMap fun p => [.int .i64 (p.1 : Int), .int .i64 (p.2 : Int)]
theorem linkCells_len : ∀ ps : List Port, (linkCells ps).length = 2 * ps.length
  | [] => rfl
  | p :: ps => by
    have := linkCells_len ps
    unfold linkCells at this ⊢
    simp [List.flatMap_cons, this]
    omega
/-- the row of the links ps, that the call owns -/
def LinkRow (base : Nat) (w : World) (v : Value) (ps : List Port) : Prop := w.ownsRow base 41 2 v ps.length (linkCells ps)
theorem infoLink : (Tryd.prog.info? 41).map (fun i => (i.zero, i.size, i.bytes)) = some (some (.agg #[.int .i64 0, .int .i64 0]), 2, 16) := by kernel_rfl

theorem LinkRow.mono {B B' : Nat} {w : World} {v : Value} {ps : List Port} (h : LinkRow B w v ps) (hB : B' ≤ B) : LinkRow B' w v ps := by
  refine ⟨h.1, ?_⟩
  rcases h.2 with h1 | ⟨g, cap, cur, e, hb, rest⟩
  · exact .inl h1
  · exact .inr ⟨g, cap, cur, e, Nat.le_trans hB hb, rest⟩
def NodeSays (base : Nat) (w : World) (l : Bytes) (e : Ending) : Prop :=
  (lineB l = none ∧ e = .returned (.tuple #[.int .i64 0, .slice none 0 0, .bool false])) ∨
  ∃ (id : Nat) (ps : List Port) (v : Value), lineB l = some (id, ps) ∧ e = .returned (.tuple #[.int .i64 (id : Int), v, .bool true]) ∧ LinkRow base w v ps

theorem strs_cell {w : World} {b : Nat} {ws : List Bytes} (h : StrsAt w (some ⟨b, 0, none⟩) ws) {i : Nat} (hi : i < ws.length) : w.cell? ⟨b, i, none⟩ = some (.string ⟨(wordA ws i).toArray⟩) := by
  rcases h with h | ⟨b', o, e, _, hc⟩
  · omega
  · injection e with e
    injection e with e1 e2
    subst e1
    subst e2
    have := hc i hi
    rw [Nat.zero_add] at this
    exact this
theorem new_cells (w : World) (cs : Array Value) (t : TypeId) (j : Nat) (u : Value) (h : cs.toList[j]? = some u) : (w.alloc (.cells cs t)).cell? ((⟨w.heap.size, 0, none⟩ : Addr).add j) = some u := by
  rw [add_none, Nat.zero_add, World.cell?_alloc_new]
  simpa using h
theorem ret_node {a c : Int} {u v : Value} {b d : Bool} (h : a = c) (h2 : b = d) (h3 : u = v) : Ending.returned (.tuple #[.int .i64 a, u, .bool b]) = .returned (.tuple #[.int .i64 c, v, .bool d]) := by rw [h, h2, h3]

set_option maxRecDepth 100000 in
set_option maxHeartbeats 2000000 in
theorem node_any (l : Bytes) (w : World) (hs : l.length ≤ 1000000) :
    Calls Tryd.prog 22 #[.string ⟨l.toArray⟩] w fun e w' => NodeSays w.heap.size w' l e ∧ Below w.heap.size w w' := by
  obtain ⟨i0, hi, hz0, hz1, hz2⟩ := info_parts infoLink
  have Hsh := Lib.hid (fun i (h : i < (splitB 32 l).length) => Nat.le_trans (word_short h) hs)
  have hsl := split_len 32 l
  have hpos := List.length_pos_iff.2 (split_ne 32 l)
  have Hshort := Lib.hid (line_short (l := l))
  have Hof := Lib.hid (line_of (l := l))
  have hspl := split_here l 32 w hs
  generalize splitB 32 l = ws at *
  by_cases h2 : ws.length < 2
  · have d2 : decide ((ws.length : Int) < 2) = true := by simp; omega
    have Hn := Lib.hid (Hshort.out h2)
    go_enter Tryd.func22, Tryd.ntmps22
    go_wp2_with (go_at_call 31; refine hspl.mono ?_; rintro e w1 ⟨⟨b, cap, rfl, hcap, hcap2, hb, hS⟩, hb1⟩)
    go_ret3
    exact ⟨.inl ⟨Hn.out, rfl⟩, hb1⟩
  have d2 : decide ((ws.length : Int) < 2) = false := by simp; omega
  have hi0 : (0 : Int) < ws.length := by omega
  have hi1 : (1 : Int) < ws.length := by omega
  by_cases hw0 : wordA ws 0 = nodeW
  · have hq0 : (wordA ws 0 == [110, 111, 100, 101]) = true := by rw [hw0]; rfl
    have Hof2 : Hid (lineB l = match numB (wordA ws 1), portsB (ws.drop 2) with
      | some id, some p => some (id, p)
      | _, _ => none) := Lib.hid (by rw [Hof.out (by omega), if_pos hw0])
    clear Hof Hshort
    have hnum := fun w0 => number_at (wordA ws 1) w0
    cases hk : numK (wordA ws 1) with
    | false =>
      have Hn := Lib.hid (show lineB l = none from by rw [Hof2.out, num_off hk])
      rw [hk] at hnum
      go_enter Tryd.func22, Tryd.ntmps22
      go_wp2_with (first | (go_at_call 31; refine hspl.mono ?_; rintro e w1 ⟨⟨b, cap, rfl, hcap, hcap2, hb, hS⟩, hb1⟩; have hc0 := strs_cell hS (i := 0) (by omega); have hc1 := strs_cell hS (i := 1) (by omega)) | (go_at_call 39; refine (hnum _).mono ?_; rintro e w2 ⟨rfl, rfl⟩))
      go_ret3
      exact ⟨.inl ⟨Hn.out, rfl⟩, hb1⟩
    | true =>
      obtain ⟨id, hid1, hid2, hid3⟩ := num_of hk
      have Hid1 := Lib.hid hid1
      rw [hk, hid2] at hnum
      clear hid1 hid2
      go_enter Tryd.func22, Tryd.ntmps22
      go_wp2_with (first | (go_at_call 31; refine hspl.mono ?_; rintro e w1 ⟨⟨b, cap, rfl, hcap, hcap2, hb, hS⟩, hb1⟩; have hc0 := strs_cell hS (i := 0) (by omega); have hc1 := strs_cell hS (i := 1) (by omega)) | (go_at_call 39; refine (hnum _).mono ?_; rintro e w2 ⟨rfl, rfl⟩))
      clear hspl hnum hc0 hc1
      have HS := Lib.hid hS
      clear hS
      go_loopw [8, 9] (fun q t wr => ∃ (i : Nat) (qs : List Port), 2 ≤ i ∧ i ≤ ws.length ∧ t = .int .i64 i ∧ qs.length ≤ i ∧ LinkRow w1.heap.size wr q qs ∧ portsB ((ws.drop 2).take (i - 2)) = some qs ∧ Below w.heap.size w wr ∧ Below w1.heap.size w1 wr) (fun _ t _ => ws.length - (intOf t).toNat)
      case atStart => exact ⟨2, [], Nat.le_refl _, by omega, rfl, Nat.zero_le _, World.ownsRow_nil _ _ _ _, rfl, hb1, Below.refl _ _⟩
      case round =>
        obtain ⟨i, qs, hi2, hin, rfl, hql, hR, hP, hbel, hbel1⟩ := hrel
        have HR := Lib.hid hR
        have HP := Lib.hid hP
        clear hR hP
        by_cases hlt : i < ws.length
        · have hci := strs_cell (HS.out.below hbel1) hlt
          have hx := Hsh.out i hlt
          have hspx := fun w0 => split_here (wordA ws i) 47 w0 hx
          have Hmem : Hid (wordA ws i ∈ ws.drop 2) := Lib.hid (by
            have : wordA ws i = (ws.drop 2)[i - 2]'(by simp; omega) := by
              simp [wordA, List.getD, List.getElem?_eq_getElem hlt, show 2 + (i - 2) = i by omega]
            rw [this]
            exact List.getElem_mem _)
          have Hbad : Hid (portB (wordA ws i) = none → lineB l = none) := Lib.hid (fun h => by rw [Hof2.out, ports_bad h Hmem.out, Hid1.out])
          have Hgood : Hid (∀ p, portB (wordA ws i) = some p → portsB ((ws.drop 2).take (i + 1 - 2)) = some (qs ++ [p])) := Lib.hid (fun p h => by
            have e : (ws.drop 2).take (i + 1 - 2) = (ws.drop 2).take (i - 2) ++ [wordA ws i] := by
              rw [show i + 1 - 2 = (i - 2) + 1 by omega, List.take_succ_eq_append_getElem (by simp; omega)]
              simp [wordA, List.getD, List.getElem?_eq_getElem hlt, show 2 + (i - 2) = i by omega]
            rw [e]
            exact ports_snoc h HP.out)
          have Hnot := Lib.hid (port_not (x := wordA ws i))
          have Htwo := Lib.hid (port_two (x := wordA ws i))
          have hpx := List.length_pos_iff.2 (split_ne 47 (wordA ws i))
          generalize splitB 47 (wordA ws i) = xs at *
          by_cases hx2 : xs.length = 2
          · have d3 : ((xs.length : Int) != 2) = false := by simp; omega
            have hj0 : (0 : Int) < xs.length := by omega
            have hj1 : (1 : Int) < xs.length := by omega
            have Hport := Lib.hid (Htwo.out hx2)
            have hn0 := fun w0 => number_at (wordA xs 0) w0
            have hn1 := fun w0 => number_at (wordA xs 1) w0
            clear Hnot Htwo
            cases hk0 : numK (wordA xs 0) with
            | false =>
              have Hn := Lib.hid (Hbad.out (by rw [Hport.out, num_off hk0]))
              rw [hk0] at hn0
              cases hk1 : numK (wordA xs 1)
              all_goals
                rw [hk1] at hn1
                go_wp2_with (first | (go_at_call 31; refine (hspx _).mono ?_; rintro e w3 ⟨⟨b3, cap3, rfl, hcap3, hcap4, hb3, hS3⟩, hb4⟩; have hc0 := strs_cell hS3 (i := 0) (by omega); have hc1 := strs_cell hS3 (i := 1) (by omega)) | (go_at_call 39; (with_reducible refine (hn0 _).mono ?_); rintro e w5 ⟨rfl, rfl⟩) | (go_at_call 39; (with_reducible refine (hn1 _).mono ?_); rintro e w5 ⟨rfl, rfl⟩))
                go_ret3
                exact ⟨.inl ⟨Hn.out, rfl⟩, hbel.trans (hb4.mono hbel.size)⟩
            | true =>
              obtain ⟨n0, ha1, ha2, ha3⟩ := num_of hk0
              rw [hk0, ha2] at hn0
              rw [ha1] at Hport
              clear ha1 ha2
              cases hk1 : numK (wordA xs 1) with
              | false =>
                have Hn := Lib.hid (Hbad.out (by rw [Hport.out, num_off hk1]))
                rw [hk1] at hn1
                go_wp2_with (first | (go_at_call 31; refine (hspx _).mono ?_; rintro e w3 ⟨⟨b3, cap3, rfl, hcap3, hcap4, hb3, hS3⟩, hb4⟩; have hc0 := strs_cell hS3 (i := 0) (by omega); have hc1 := strs_cell hS3 (i := 1) (by omega)) | (go_at_call 39; (with_reducible refine (hn0 _).mono ?_); rintro e w5 ⟨rfl, rfl⟩) | (go_at_call 39; (with_reducible refine (hn1 _).mono ?_); rintro e w5 ⟨rfl, rfl⟩))
                go_ret3
                exact ⟨.inl ⟨Hn.out, rfl⟩, hbel.trans (hb4.mono hbel.size)⟩
              | true =>
                obtain ⟨n1, hb1', hb2', hb3'⟩ := num_of hk1
                rw [hk1, hb2'] at hn1
                rw [hb1'] at Hport
                have Hg := Lib.hid (Hgood.out (n0, n1) Hport.out)
                clear hb1' hb2' Hbad Hgood
                have hwf0 : (Lit.int .i64 (n0 : Int)).wf = true := WalkArith.wf_i64 (by omega)
                go_wp2_with (first | (go_at_call 31; refine (hspx _).mono ?_; rintro e w3 ⟨⟨b3, cap3, rfl, hcap3, hcap4, hb3, hS3⟩, hb4⟩; have hc0 := strs_cell hS3 (i := 0) (by omega); have hc1 := strs_cell hS3 (i := 1) (by omega); have hR3 : w3.ownsRow w1.heap.size 41 2 _ qs.length (linkCells qs) := World.ownsRow.kept HR.out (row := none) ⟨hb4.os, hb4.tape, hb4.output, hb4.size, fun k hk _ => hb4.block k hk⟩ (by cases Value.ownBlock _ <;> simp); have hsz3 := (hbel.trans (hb4.mono hbel.size)).size; have hsz4 := (hbel1.trans (hb4.mono hbel1.size)).size) | (go_at_call 39; (with_reducible refine (hn0 _).mono ?_); rintro e w5 ⟨rfl, rfl⟩) | (go_at_call 39; (with_reducible refine (hn1 _).mono ?_); rintro e w5 ⟨rfl, rfl⟩) | (at_builtin; refine wpList_append_own _ rfl (.tmp 69) (.tmp 73) 39 rfl w1.heap.size 41 i0 (.agg #[.int .i64 0, .int .i64 0]) 2 16 Tryd.underlying39 hi hz0 hz1 hz2 rfl (by decide) _ _ _ rfl (hR3.alloc _) ⟨w3.heap.size, 0, none⟩ 1 1 [.int .i64 (n0 : Int), .int .i64 (n1 : Int)] rfl rfl (new_cells _ #[.int .i64 (n0 : Int), .int .i64 (n1 : Int)] _) (by intro u hu; simp at hu; rcases hu with rfl | rfl <;> rfl) (by unfold maxLen; omega) (by omega) (by simp; omega) ?_; intro v6 w6 hown6 hgrow6 hnil6))
                go_roundw
                case rel =>
                  have hB1 := Below.grown ((hbel1.trans (hb4.mono hbel1.size)).alloc hsz4 _) hgrow6 (by simp; omega) (fun k hk => (hR3.lt k hk).1)
                  refine ⟨i + 1, qs ++ [(n0, n1)], by omega, by omega, by go_num, by simp; omega, ?_, Hg.out, hb1.trans (hB1.mono hb1.size), hB1⟩
                  unfold LinkRow
                  rw [List.length_append, List.length_singleton, show linkCells (qs ++ [(n0, n1)]) = linkCells qs ++ [.int .i64 (n0 : Int), .int .i64 (n1 : Int)] from by simp [linkCells]]
                  exact hown6
                case measure => simp [intOf]; omega
          · have d3 : ((xs.length : Int) != 2) = true := by simp; omega
            have Hn := Lib.hid (Hbad.out (Hnot.out hx2))
            go_wp2_with (go_at_call 31; refine (hspx _).mono ?_; rintro e w3 ⟨⟨b3, cap3, rfl, hcap3, hcap4, hb3, hS3⟩, hb4⟩)
            go_ret3
            exact ⟨.inl ⟨Hn.out, rfl⟩, hbel.trans (hb4.mono hbel.size)⟩
        · have Hend : Hid (lineB l = some (id, qs)) := Lib.hid (by
            have h := HP.out
            rw [List.take_of_length_le (by simp; omega)] at h
            rw [Hof2.out, Hid1.out, h])
          go_wp2
          go_ret3
          exact ⟨.inr ⟨id, qs, _, Hend.out, rfl, HR.out.mono hb1.size⟩, hbel⟩
  · have hq0 : (wordA ws 0 == [110, 111, 100, 101]) = false := by rw [beq_eq_false_iff_ne]; exact hw0
    have Hn := Lib.hid (show lineB l = none from by rw [Hof.out (by omega), if_neg hw0])
    go_enter Tryd.func22, Tryd.ntmps22
    go_wp2_with (go_at_call 31; refine hspl.mono ?_; rintro e w1 ⟨⟨b, cap, rfl, hcap, hcap2, hb, hS⟩, hb1⟩; have hcell := strs_cell hS (i := 0) (by omega))
    go_ret3
    exact ⟨.inl ⟨Hn.out, rfl⟩, hb1⟩
end Go.Proofs.YtahhndhaciijpaaDoor
