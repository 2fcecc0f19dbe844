/- What node of package graphtext answers. -/
import Derived.Test.YtahhndhaciijpaaDoorLinkG
namespace Go.Proofs.YtahhndhaciijpaaDoor
open Go.RowKit

theorem new_cells2 (w : World) (o : Obj) (cs : Array Value) (t : TypeId) (j : Nat) (u : Value) (h : cs.toList[j]? = some u) : ((w.alloc o).alloc (.cells cs t)).cell? ((⟨w.heap.size + 1, 0, none⟩ : Addr).add j) = some u := by
  have := new_cells (w.alloc o) cs t j u h
  simpa using this

set_option maxRecDepth 100000 in
set_option maxHeartbeats 4000000 in
theorem nodeG_any : NodeSay 20 := by
  intro l w hg hs
  obtain ⟨i0, hi, hz0, hz1, hz2⟩ := info_parts infoLink
  have Hsh := Lib.hid (fun i (h : i < (splitB 32 l).length) => Nat.le_trans (word_short h) hs)
  have hsl := split_len 32 l
  have hpos := List.length_pos_iff.2 (split_ne 32 l)
  have Hshort := Lib.hid (line_short (l := l))
  have Hof := Lib.hid (line_of (l := l))
  have hspl := splitG_at l 32 w hg hs
  have HG := Lib.hid hg
  clear hg
  generalize splitB 32 l = ws at *
  by_cases h2 : ws.length < 2
  · have d2 : decide ((ws.length : Int) < 2) = true := by simp; omega
    have Hn := Lib.hid (Hshort.out h2)
    go_enter Tryd.func20, Tryd.ntmps20
    go_wp2_with (go_at_call 32; refine hspl.mono ?_; rintro e w1 ⟨rfl, hS, hb1⟩)
    go_ret3
    exact ⟨.inl ⟨Hn.out, rfl⟩, hb1⟩
  have d2 : decide ((ws.length : Int) < 2) = false := by simp; omega
  have hi0 : (0 : Int) < ws.length := by omega
  have hi1 : (1 : Int) < ws.length := by omega
  by_cases hw0 : wordA ws 0 = nodeW
  · have hq0 : (wordA ws 0 == [110, 111, 100, 101]) = true := by rw [hw0]; rfl
    have hq1 : (wordA ws 0 != [110, 111, 100, 101]) = false := by rw [hw0]; rfl
    have Hof2 : Hid (lineB l = match numB (wordA ws 1), portsB (ws.drop 2) with
      | some id, some p => some (id, p)
      | _, _ => none) := Lib.hid ((Hof.out (by omega)).trans (if_pos hw0))
    clear Hof Hshort
    have hnum := fun w0 => numberG_at (wordA ws 1) w0
    cases hk : numK (wordA ws 1) with
    | false =>
      have Hn := Lib.hid (show lineB l = none from by rw [Hof2.out, num_off hk])
      rw [hk] at hnum
      go_enter Tryd.func20, Tryd.ntmps20
      go_wp2_with (first | (go_at_call 32; refine hspl.mono ?_; rintro e w1 ⟨rfl, hS, hb1⟩; have hc0 := strs_cell hS (i := 0) (by omega); have hc1 := strs_cell hS (i := 1) (by omega)) | (go_at_call 34; refine (hnum _).mono ?_; rintro e w2 ⟨rfl, hb2⟩))
      go_ret3
      exact ⟨.inl ⟨Hn.out, rfl⟩, hb1.trans (hb2.mono hb1.size)⟩
    | true =>
      obtain ⟨id, hid1, hid2, hid3⟩ := num_of hk
      have Hid1 := Lib.hid hid1
      rw [hk, hid2] at hnum
      clear hid1 hid2
      by_cases h3 : ws.length = 2
      · have Hend : Hid (lineB l = some (id, [])) := Lib.hid (by
          rw [Hof2.out, Hid1.out, List.drop_of_length_le (by omega)]
          rfl)
        generalize hn : ws.length = n at *
        subst h3
        go_enter Tryd.func20, Tryd.ntmps20
        go_wp2_with (first | (go_at_call 32; refine hspl.mono ?_; rintro e w1 ⟨rfl, hS, hb1⟩; have hc0 := strs_cell hS (i := 0) (by omega); have hc1 := strs_cell hS (i := 1) (by omega)) | (go_at_call 34; refine (hnum _).mono ?_; rintro e w2 ⟨rfl, hb2⟩))
        have B2 := Lib.hid (hb1.trans (hb2.mono hb1.size))
        clear hspl hnum hc0 hc1 hS
        go_loopw [8, 36] (fun q t wr => q = .slice none 0 0 ∧ t = .int .i64 0 ∧ wr = w2) (fun _ _ _ => 0)
        case atStart => exact ⟨rfl, rfl, rfl⟩
        case round =>
          obtain ⟨rfl, rfl, rfl⟩ := hrel
          go_wp2
          go_ret3
          exact ⟨.inr ⟨id, [], _, Hend.out, rfl, World.ownsRow_nil _ _ _ _⟩, B2.out⟩
      · go_enter Tryd.func20, Tryd.ntmps20
        go_wp2_with (first | (go_at_call 32; refine hspl.mono ?_; rintro e w1 ⟨rfl, hS, hb1⟩; have hc0 := strs_cell hS (i := 0) (by omega); have hc1 := strs_cell hS (i := 1) (by omega)) | (go_at_call 34; refine (hnum _).mono ?_; rintro e w2 ⟨rfl, hb2⟩))
        have HS := Lib.hid hS
        have B1 := Lib.hid hb1
        have B2 := Lib.hid (hb1.trans (hb2.mono hb1.size))
        have B12 := Lib.hid hb2
        have G2 := Lib.hid (HG.out.below B2.out)
        clear hspl hnum hc0 hc1 hS hb1 hb2
        go_loopw [8, 36] (fun q t wr => ∃ (i : Nat) (qs : List Port), i ≤ ws.length - 2 ∧ t = .int .i64 i ∧ qs.length ≤ i ∧ LinkRow w2.heap.size wr q qs ∧ portsB ((ws.drop 2).take i) = some qs ∧ Below w2.heap.size w2 wr) (fun _ t _ => ws.length - 2 - (intOf t).toNat)
        case atStart => exact ⟨0, [], Nat.zero_le _, rfl, Nat.zero_le _, World.ownsRow_nil _ _ _ _, rfl, Below.refl _ _⟩
        case round =>
          obtain ⟨i, qs, hin, rfl, hql, hR, hP, hbel⟩ := hrel
          have HR := Lib.hid hR
          have HP := Lib.hid hP
          have Hbel := Lib.hid hbel
          have hsz2 := B2.out.size
          have hszr := hbel.size
          clear hR hP
          by_cases hlt : i < ws.length - 2
          · have hci := strs_cell ((HS.out.below B12.out).below hbel) (show 2 + i < ws.length by omega)
            have hx := Hsh.out (2 + i) (by omega)
            have hwe : (ws.drop 2)[i]'(by simp; omega) = wordA ws (2 + i) := by
              simp [wordA, List.getD, List.getElem?_eq_getElem (show 2 + i < ws.length by omega)]
            have Hbad : Hid (portB (wordA ws (2 + i)) = none → lineB l = none) := Lib.hid (fun h => by
              have hm : wordA ws (2 + i) ∈ ws.drop 2 := by rw [← hwe]; exact List.getElem_mem _
              rw [Hof2.out, ports_bad h hm, Hid1.out])
            have Hgood : Hid (∀ p, portB (wordA ws (2 + i)) = some p → portsB ((ws.drop 2).take (i + 1)) = some (qs ++ [p])) := Lib.hid (fun p h => by
              rw [List.take_succ_eq_append_getElem (by simp; omega), hwe]
              exact ports_snoc h HP.out)
            have hlk := linkG_any (wordA ws (2 + i)) wr (G2.out.below hbel) hx
            clear hbel hwe hx
            cases hp : portB (wordA ws (2 + i)) with
            | none =>
              have hlk2 : Calls Tryd.prog 35 #[.string ⟨(wordA ws (2 + i)).toArray⟩] wr fun e w' => e = .returned (.tuple #[.agg #[.int .i64 0, .int .i64 0], .bool false]) ∧ Below wr.heap.size wr w' := hlk.mono fun e w' ⟨h1, h2⟩ => ⟨(by
                rcases h1 with ⟨_, h1⟩ | ⟨p, h1, _⟩
                · exact h1
                · rw [hp] at h1; cases h1), h2⟩
              have Hn := Lib.hid (Hbad.out hp)
              clear hlk hp
              go_wp2_with (go_at_call 35; refine hlk2.mono ?_; rintro e w3 ⟨rfl, hb3⟩)
              go_ret3
              refine ⟨.inl ⟨Hn.out, rfl⟩, ?_⟩
              have h0 := (B2.out.trans (Hbel.out.mono B2.out.size)).trans (hb3.mono (B2.out.trans (Hbel.out.mono B2.out.size)).size)
              exact h0.alloc h0.size _
            | some p =>
              have hlk2 : Calls Tryd.prog 35 #[.string ⟨(wordA ws (2 + i)).toArray⟩] wr fun e w' => e = .returned (.tuple #[.agg #[.int .i64 (p.1 : Int), .int .i64 (p.2 : Int)], .bool true]) ∧ Below wr.heap.size wr w' := hlk.mono fun e w' ⟨h1, h2⟩ => ⟨(by
                rcases h1 with ⟨h1, _⟩ | ⟨q, h1, h3⟩
                · rw [hp] at h1; cases h1
                · rw [hp] at h1
                  obtain rfl : p = q := by simpa using h1
                  exact h3), h2⟩
              have Hg := Lib.hid (Hgood.out p hp)
              clear hlk hp
              obtain ⟨n0, n1⟩ := p
              go_wp2_with (first | (go_at_call 35; refine hlk2.mono ?_; rintro e w3 ⟨rfl, hb3⟩; have hR3 : w3.ownsRow w2.heap.size 41 2 _ qs.length (linkCells qs) := World.ownsRow.kept HR.out (row := none) ⟨hb3.os, hb3.tape, hb3.output, hb3.size, fun k hk _ => hb3.block k hk⟩ (by cases Value.ownBlock _ <;> simp); have hsz3 := (Hbel.out.trans (hb3.mono Hbel.out.size)).size) | (at_builtin; refine wpList_append_own _ rfl (.tmp 47) (.tmp 49) 39 rfl w2.heap.size 41 i0 (.agg #[.int .i64 0, .int .i64 0]) 2 16 Tryd.underlying39 hi hz0 hz1 hz2 rfl (by decide) _ _ _ rfl ((hR3.alloc _).alloc _) ⟨w3.heap.size + 1, 0, none⟩ 1 1 [.int .i64 (n0 : Int), .int .i64 (n1 : Int)] rfl rfl (new_cells2 _ _ #[.int .i64 (n0 : Int), .int .i64 (n1 : Int)] _) (by intro u hu; simp at hu; rcases hu with rfl | rfl <;> rfl) (by unfold maxLen; omega) (by omega) (by simp; omega) ?_; intro v6 w6 hown6 hgrow6 hnil6))
              go_roundw
              case rel =>
                have hB1 := Below.grown (((Hbel.out.trans (hb3.mono Hbel.out.size)).alloc hsz3 _).alloc (by simp; omega) _) hgrow6 (by simp; omega) (fun k hk => (hR3.lt k hk).1)
                refine ⟨i + 1, qs ++ [(n0, n1)], by omega, by go_num, by simp; omega, ?_, Hg.out, hB1⟩
                unfold LinkRow
                rw [List.length_append, List.length_singleton, show linkCells (qs ++ [(n0, n1)]) = linkCells qs ++ [.int .i64 (n0 : Int), .int .i64 (n1 : Int)] from by simp [linkCells]]
                exact hown6
              case measure => simp [intOf]; omega
          · have Hend : Hid (lineB l = some (id, qs)) := Lib.hid (by
              have h := HP.out
              rw [List.take_of_length_le (by simp; omega)] at h
              rw [Hof2.out, Hid1.out, h])
            obtain rfl : i = ws.length - 2 := by omega
            go_wp2
            go_ret3
            exact ⟨.inr ⟨id, qs, _, Hend.out, rfl, HR.out.mono hsz2⟩, B2.out.trans (Hbel.out.mono hsz2)⟩
  · have hq0 : (wordA ws 0 == [110, 111, 100, 101]) = false := by rw [beq_eq_false_iff_ne]; exact hw0
    have hq1 : (wordA ws 0 != [110, 111, 100, 101]) = true := by rw [bne, hq0]; rfl
    have Hn := Lib.hid (show lineB l = none from by rw [Hof.out (by omega), if_neg hw0])
    go_enter Tryd.func20, Tryd.ntmps20
    go_wp2_with (go_at_call 32; refine hspl.mono ?_; rintro e w1 ⟨rfl, hS, hb1⟩; have hcell := strs_cell hS (i := 0) (by omega))
    go_ret3
    exact ⟨.inl ⟨Hn.out, rfl⟩, hb1⟩
end Go.Proofs.YtahhndhaciijpaaDoor
