/- Relabel with a permutation and then with its inverse returns the graph; distances go along. No conditions: every input. -/
import Derived.Test.YtfbbkiibhdgojaaLaw3
import Derived.Test.YtfbbkiibhdgojaaMovBack
import Derived.Test.YtfbbkiibhdgojaaFamMov
import Derived.Test.YtfbbkiibhdgojaaRef01V
import Derived.Test.YtfbbkiibhdgojaaGraph8
import Derived.Test.YtfbbkiibhdgojaaKeep2
import Derived.OpenShut
import Derived.ChangeOld
import Derived.Deep.RegionHeld3
namespace Go.Proofs.Ytfbbkiibhdgojaa.lawFamilyRelabelsBack
open Go.ChangeShapes Go.WideShapes Go.ChangeAt Go.RowKit Go.Deep Go.Joins
set_option linter.unusedVariables false

/-- the struct at A holds a graph -/
structure BoxG (w : World) (A : Nat) (a1 : Option Addr) (l1 c1 : Nat) (a2 : Option Addr) (l2 c2 : Nat) (G : Gr) : Prop where
  c0 : w.cell? ⟨A, 0, none⟩ = some (.slice a1 l1 c1)
  c1 : w.cell? ⟨A, 1, none⟩ = some (.slice a2 l2 c2)
  g : GraphAt w a1 l1 a2 l2 G
theorem BoxG.below {w w' : World} {A : Nat} {a1 : Option Addr} {l1 c1 : Nat} {a2 : Option Addr} {l2 c2 : Nat} {G : Gr} (h : BoxG w A a1 l1 c1 a2 l2 c2 G) (hb : Below w.heap.size w w') : BoxG w' A a1 l1 c1 a2 l2 c2 G :=
  ⟨(hb.cell (p := ⟨A, 0, none⟩) (cell_lt h.c0)).trans h.c0, (hb.cell (p := ⟨A, 1, none⟩) (cell_lt h.c1)).trans h.c1, h.g.below hb⟩
theorem BoxG.make {w : World} {a1 : Option Addr} {l1 c1 : Nat} {a2 : Option Addr} {l2 c2 : Nat} {G : Gr} {t : TypeId} (h : GraphAt w a1 l1 a2 l2 G) : BoxG (w.alloc (.cells #[.slice a1 l1 c1, .slice a2 l2 c2] t)) w.heap.size a1 l1 c1 a2 l2 c2 G :=
  ⟨by simp [cell_push0], by simp [cell_push0], h.alloc _⟩
theorem below_alloc (w : World) (o : Obj) : Below w.heap.size w (w.alloc o) := (Below.refl _ _).alloc (Nat.le_refl _) o

theorem movO_ok {G : Gr} {zs : List Int} (hV : ValidG G) (hp : permOk zs G.ps.length) : movO G zs = .inr (movG G zs) := by
  unfold movO
  rw [if_pos (validB_mk hV), if_pos hp]
theorem movO_back {G : Gr} {zs ys : List Int} (hV : ValidG G) (hp : permOk zs G.ps.length) (hu : Undo zs ys) : movO (movG G zs) ys = .inr G := by
  rw [movO_ok (mov_valid hV hp) (by rw [movG_len]; exact undo_perm hp hu), mov_back hV hp hu]
theorem mov_deg {G : Gr} {zs : List Int} (hV : ValidG G) (hp : permOk zs G.ps.length) {v d : Nat} (hv : v < G.ps.length) (hd : idA zs v = d) : degF (movG G zs) d = degF G v := by
  have hl := perm_len hp
  have hdn := permAt_in (hp.2 v (by omega))
  have hv2 : inB (v : Int) 0 (G.ps.length - 1) = true := inB_mk (by omega)
  have hd2 : inB (d : Int) 0 (G.ps.length - 1) = true := inB_mk (by omega)
  unfold degF
  rw [movG_len, if_pos ⟨validB_mk (mov_valid hV hp), hd2⟩, if_pos ⟨validB_mk hV, hv2⟩, Int.toNat_natCast, Int.toNat_natCast, movG_row (by omega), mvR_len]
  have := inv_of hp (v := v) (by omega)
  rw [hd, Int.toNat_natCast] at this
  rw [this]
/-- the first n of f, as a list -/
def ysF (f : Nat → Int) (n : Nat) : List Int := (List.range n).map f
theorem ysF_len {f : Nat → Int} {n : Nat} : (ysF f n).length = n := by simp [ysF]
theorem ysF_at {f : Nat → Int} {n i : Nat} (hi : i < n) : idA (ysF f n) i = f i := by simp [ysF, idA, hi]
theorem ysF_undo {f : Nat → Int} {n : Nat} {zs : List Int} (hl : zs.length = n) (hd : ∀ v, v < n → ∃ d : Nat, idA zs v = d ∧ d < n) (h : ∀ v, v < n → f (idA zs v).toNat = v) : Undo zs (ysF f n) := by
  refine ⟨by rw [ysF_len, hl], fun v hv => ?_⟩
  obtain ⟨d, e, hdn⟩ := hd v (by omega)
  have h1 := h v (by omega)
  rw [e, Int.toNat_natCast] at h1 ⊢
  rw [ysF_at hdn, h1]
theorem ysF_ints {w : World} {b n : Nat} {f : Nat → Int} (hM : MadeAt w b n f) (hn : n ≤ 24) (hf : ∀ i, i < n → 0 ≤ f i ∧ f i ≤ 24) : IntsAt w (some ⟨b, 0, none⟩) (ysF f n) := by
  refine ⟨by rw [ysF_len]; unfold maxLen; omega, fun _ => ⟨b, 0, rfl, hM.1, fun i hi => ?_⟩, fun z hz => ?_⟩
  · rw [ysF_len] at hi
    rw [ysF_at hi, Nat.zero_add]
    exact (hM.2 i hi).1
  · unfold ysF at hz
    rw [List.mem_map] at hz
    obtain ⟨i, hi, rfl⟩ := hz
    have := hf i (List.mem_range.1 hi)
    unfold I64
    omega
theorem zeros_made (w : World) (n : Nat) (t : TypeId) : MadeAt (w.alloc (.cells (List.replicate n (Value.int .i64 0)).toArray t)) w.heap.size n (fun _ => 0) := by
  refine ⟨by simp, fun i hi => ⟨?_, ?_⟩⟩
  · simp [cell_push0, hi]
  · simp [free_push0]
set_option maxRecDepth 100000 in
set_option maxHeartbeats 1000000 in
theorem walk (w : World) (ia : Option Addr) (il ic : Nat) (pa : Option Addr) (pl pc : Nat) (G : Gr) (hG : GraphAt w ia il pa pl G) (sa : Option Addr) (sc : Nat) (zs : List Int) (hI : IntsAt w sa zs) (a2 : Int) (wf2 : (Lit.int .i64 a2).wf = true) :
    Calls Try.prog 4 #[.agg #[.slice ia il ic, .slice pa pl pc], .slice sa zs.length sc, .int .i64 a2] w fun e w' => e = .returned (.bool true) ∧ Below w.heap.size w w' := by
  have hz1 := hI.size
  unfold maxLen at hz1
  have hpl := hG.pl
  have h4 := wf_I64 wf2
  have H4 := Lib.hid h4
  have hB0 := BoxG.make (c1 := ic) (c2 := pc) (t := 25) hG
  have HB0 := Lib.hid hB0
  have hT0 := below_alloc w (.cells #[.slice ia il ic, .slice pa pl pc] 25)
  have HT0 := Lib.hid hT0
  have Hpl := Lib.hid hpl
  have HI := Lib.hid hI
  have C1 : Hid (∀ W : World, Below w.heap.size w W → Calls Try.prog 13 #[.slice sa zs.length sc, .int .i64 pl] W fun e w' => (∃ b, e = .returned (.bool b) ∧ (b = true ↔ permOk zs (pl : Int))) ∧ Below W.heap.size W w') := Lib.hid (fun W hb => perm_any _ _ zs _ _ (hI.below hb))
  have C2 : Hid (∀ W : World, Below w.heap.size w W → GraphAt W ia il pa pl G → Calls Try.prog 7 #[.agg #[.slice ia il ic, .slice pa pl pc], .slice sa zs.length sc] W fun e w' => FamOwn W.heap.size (movO G zs) e w' ∧ Below W.heap.size W w') := Lib.hid (fun W hb hg => relabelP_any _ _ _ _ _ _ G _ _ zs _ hg (hI.below hb))
  clear wf2 h4 hpl hG hB0 hT0 hI
  obtain ⟨m, hm⟩ : ∃ m, m = zs.length := ⟨_, rfl⟩
  have HM := Lib.hid hm
  rw [← hm] at hz1 C1 C2 ⊢
  clear hm
  cases hl : lightB G with
  | false =>
    go_enter Try.func4, Try.ntmps4
    go_wp2_with fail
    refine (light_any _ _ _ _ _ _ G _ HB0.out.g).mono ?_
    rintro e w1 ⟨rfl, hb1⟩
    rw [hl]
    go_wp2_with fail
    refine (awake_any _).mono ?_
    rintro e w2 ⟨rfl, hb2⟩
    go_wp2_with fail
    go_ret
    have hT := HT0.out.trans (hb1.mono HT0.out.size)
    exact ⟨rfl, hT.trans (hb2.mono hT.size)⟩
  | true =>
  cases hv : validB G with
  | false =>
    go_enter Try.func4, Try.ntmps4
    go_wp2_with fail
    refine (light_any _ _ _ _ _ _ G _ HB0.out.g).mono ?_
    rintro e w1 ⟨rfl, hb1⟩
    rw [hl]
    have hB1 := HB0.out.below hb1
    have z0 := hB1.c0
    have z1 := hB1.c1
    go_wp2_with fail
    refine (refValid_any _ _ _ _ _ _ G _ hB1.g).mono ?_
    rintro e w2 ⟨rfl, hb2⟩
    rw [hv]
    go_wp2_with fail
    refine (awake_any _).mono ?_
    rintro e w3 ⟨rfl, hb3⟩
    go_wp2_with fail
    go_ret
    have hT := HT0.out.trans (hb1.mono HT0.out.size)
    have hT2 := hT.trans (hb2.mono hT.size)
    exact ⟨rfl, hT2.trans (hb3.mono hT2.size)⟩
  | true =>
  have HV := Lib.hid (validB_iff.1 hv)
  have hp1 : 1 ≤ pl := by have := HV.out.pos; rw [Hpl.out]; exact this
  have hp24 : pl ≤ 24 := by have := HV.out.le; rw [Hpl.out]; exact this
  by_cases hp : permOk zs (pl : Int)
  case neg =>
    have HN := Lib.hid hp
    clear hp
    go_enter Try.func4, Try.ntmps4
    go_wp2_with fail
    refine (light_any _ _ _ _ _ _ G _ HB0.out.g).mono ?_
    rintro e w1 ⟨rfl, hb1⟩
    rw [hl]
    have hB1 := HB0.out.below hb1
    have z0 := hB1.c0
    have z1 := hB1.c1
    have hT := HT0.out.trans (hb1.mono HT0.out.size)
    go_wp2_with fail
    refine (refValid_any _ _ _ _ _ _ G _ hB1.g).mono ?_
    rintro e w2 ⟨rfl, hb2⟩
    rw [hv]
    have hB2 := hB1.below hb2
    have hT2 := hT.trans (hb2.mono hT.size)
    have z0 := hB2.c0
    have z1 := hB2.c1
    go_wp2_with fail
    refine (C1.out _ hT2).mono ?_
    rintro e w3 ⟨⟨bb, rfl, hbb⟩, hb3⟩
    obtain rfl : bb = false := by
      cases bb
      · rfl
      · exact absurd (hbb.1 rfl) HN.out
    have hT3 := hT2.trans (hb3.mono hT2.size)
    clear hbb
    go_wp2_with fail
    refine (awake_any _).mono ?_
    rintro e w4 ⟨rfl, hb4⟩
    go_wp2_with fail
    go_ret
    exact ⟨rfl, hT3.trans (hb4.mono hT3.size)⟩
  have HN := Lib.hid hp
  have hlen := hp.1
  rw [← HM.out] at hlen
  obtain rfl : pl = m := by omega
  have HP : Hid (permOk zs (G.ps.length : Int)) := Lib.hid (by rw [← Hpl.out]; exact hp)
  have HD : Hid (∀ v, v < pl → ∃ d : Nat, idA zs v = d ∧ d < pl) := Lib.hid (fun v hv => perm_at hp hv)
  clear hp hlen
  obtain ⟨zb, zo, rfl, hzb, hzc⟩ := HI.out.row (by rw [← HM.out]; omega)
  have HZC : Hid (∀ u : World, Below w.heap.size w u → ∀ v, v < pl → u.cell? ⟨zb, zo + v, none⟩ = some (.int .i64 (idA zs v))) := Lib.hid (fun u hb v hv => (hb.cell (p := ⟨zb, zo + v, none⟩) hzb).trans (hzc v (by rw [← HM.out]; exact hv)))
  have HZB := Lib.hid hzb
  clear hzb hzc
  have HHV : Hid (ValidG (movG G zs)) := Lib.hid (mov_valid HV.out HP.out)
  obtain ⟨H, hH⟩ : ∃ H, H = movG G zs := ⟨_, rfl⟩
  have HH := Lib.hid hH
  rw [← hH] at HHV
  have HO : Hid (movO G zs = .inr H) := Lib.hid (by rw [hH]; exact movO_ok HV.out HP.out)
  have Hback : Hid (∀ ys, Undo zs ys → movO H ys = .inr G) := Lib.hid (fun ys hu => by rw [hH]; exact movO_back HV.out HP.out hu)
  have Hdist : Hid (∀ ys, Undo zs ys → ∀ s v d e : Nat, s < pl → v < pl → idA zs s = d → idA zs v = e → distF H d e = distF G s v) := Lib.hid (fun ys hu s v d e hs hv hd he => by
    have h := mov_dist HV.out HP.out hu (s := s) (v := v) (by rw [← Hpl.out]; exact hs) (by rw [← Hpl.out]; exact hv)
    rw [hd, he, Int.toNat_natCast, Int.toNat_natCast] at h
    rw [hH]
    exact h)
  have Hdeg : Hid (∀ v d : Nat, v < pl → idA zs v = d → degF H d = degF G v) := Lib.hid (fun v d hv hd => by
    rw [hH]
    exact mov_deg HV.out HP.out (by rw [← Hpl.out]; exact hv) hd)
  have HHl : Hid (H.ps.length = pl) := Lib.hid (by rw [hH, movG_len, ← Hpl.out])
  clear hH
  obtain ⟨s, hs, hsl⟩ := mod_nat a2 hp1
  have Hs := Lib.hid hs
  clear hs
  obtain ⟨i0, hi, hz0, hz1', hz2⟩ := info_parts info3
  have hZ : madeCells (Value.int .i64 0).cells (pl * i0.size) = (List.replicate pl (Value.int .i64 0)).toArray := by
    rw [hz1', Nat.mul_one]
    apply Array.toList_inj.1
    rw [show (Value.int .i64 0).cells = #[.int .i64 0] from rfl, toList_madeCells_one]
  have hmk := fun W => run_make (P := Try.prog) W 22 3 i0 (.int .i64 0) Try.underlying22 hi hz0 .i64 .i64 pl pl (by omega) (by omega) (by rw [hz2]; omega) (by omega)
  simp only [Int.toNat_natCast] at hmk
  rw [hZ] at hmk
  obtain ⟨Z, hZd⟩ : ∃ Z, Z = List.replicate pl (Value.int .i64 0) := ⟨_, rfl⟩
  rw [← hZd] at hmk
  have HZd := Lib.hid hZd
  clear hZ hi hz0 hz1' hz2 hZd
  go_enter Try.func4, Try.ntmps4
  go_wp2_with fail
  refine (light_any _ _ _ _ _ _ G _ HB0.out.g).mono ?_
  rintro e w1 ⟨rfl, hb1⟩
  rw [hl]
  have hB1 := HB0.out.below hb1
  have hT := HT0.out.trans (hb1.mono HT0.out.size)
  have z0 := hB1.c0
  have z1 := hB1.c1
  clear hb1
  go_wp2_with fail
  refine (refValid_any _ _ _ _ _ _ G _ hB1.g).mono ?_
  rintro e w2 ⟨rfl, hb2⟩
  rw [hv]
  replace hB1 := hB1.below hb2
  replace hT := hT.trans (hb2.mono hT.size)
  have z0 := hB1.c0
  have z1 := hB1.c1
  clear hb2
  go_wp2_with fail
  refine (C1.out _ hT).mono ?_
  rintro e w3 ⟨⟨bb, rfl, hbb⟩, hb3⟩
  obtain rfl : bb = true := hbb.2 HN.out
  replace hB1 := hB1.below hb3
  replace hT := hT.trans (hb3.mono hT.size)
  clear hb3 hbb z0 z1
  go_wp2_with fail
  have hmade := zeros_made w3 pl 3
  rw [← HZd.out] at hmade
  obtain ⟨b, hbd⟩ : ∃ b, b = w3.heap.size := ⟨_, rfl⟩
  have HBd := Lib.hid hbd
  obtain ⟨u3, hu3⟩ : ∃ u3, u3 = w3.alloc (.cells Z.toArray 3) := ⟨_, rfl⟩
  have hbA : Below b w3 u3 := by rw [hu3, hbd]; exact below_alloc w3 (.cells Z.toArray 3)
  have hwb : w.heap.size < b := by rw [hbd]; exact cell_lt hB1.c0
  rw [← hu3] at hmade ⊢
  rw [← hbd] at hmade ⊢
  clear hmk hu3 hbd
  have HB1 := Lib.hid hB1
  have HT := Lib.hid hT
  clear hB1 hT
  go_loopw [8] (fun t wr => ∃ (v : Nat) (f : Nat → Int), t = .int .i64 v ∧ v ≤ pl ∧ MadeAt wr b pl f ∧ (∀ i, i < pl → 0 ≤ f i ∧ f i ≤ 24) ∧ (∀ k, k < v → f (idA zs k).toNat = k) ∧ Below b w3 wr) (fun t _ => pl - (intOf t).toNat)
  case atStart => exact ⟨0, fun _ => 0, rfl, Nat.zero_le _, hmade, fun _ _ => ⟨Int.le_refl _, by show (0 : Int) ≤ 24; omega⟩, fun k hk => absurd hk (Nat.not_lt_zero _), hbA⟩
  case round =>
    clear hmade hbA
    obtain ⟨v, f, rfl, hvn, hM, hf, hk, hbr⟩ := hrel
    have HBr := Lib.hid hbr
    have HMd := Lib.hid hM
    have HF := Lib.hid hf
    have HK := Lib.hid hk
    clear hM hf hk hbr
    by_cases hlt : v < pl
    · obtain ⟨d, hd, hdn⟩ := HD.out v hlt
      have HDv := Lib.hid hd
      have p1 := HZC.out wr (HT.out.trans (HBr.out.mono (Nat.le_of_lt hwb))) v hlt
      rw [hd] at p1
      have q1 := (HMd.out.2 d hdn).1
      have q2 := (HMd.out.2 d hdn).2
      have d0 : (0 : Int) ≤ d := by omega
      have d1 : (d : Int) < pl := by omega
      clear hd
      go_wp2
      go_roundw
      case rel =>
        refine ⟨v + 1, upd f d v, by go_num, by omega, HMd.out.set hdn, fun i hi => ?_, fun k hk => ?_, HBr.out.setCell (Nat.le_refl _) _⟩
        · unfold upd
          split
          · omega
          · exact HF.out i hi
        · obtain ⟨e, he, hen⟩ := HD.out k (by omega)
          have h1 := HK.out k
          rw [he, Int.toNat_natCast] at h1 ⊢
          unfold upd
          split
          · rename_i hed
            have := perm_inj HN.out (a := k) (b := v) (by rw [← HM.out]; omega) (by rw [← HM.out]; omega) (by rw [he, HDv.out, hed])
            omega
          · rename_i hed
            have hkv : k ≠ v := fun e1 => hed (by have h2 := HDv.out; rw [← e1, he] at h2; omega)
            exact h1 (by omega)
      case measure => simp [intOf]; omega
    · obtain rfl : v = pl := by omega
      have HYS : Hid (IntsAt wr (some ⟨b, 0, none⟩) (ysF f v)) := Lib.hid (ysF_ints HMd.out hp24 HF.out)
      have HU : Hid (Undo zs (ysF f v)) := Lib.hid (ysF_undo HM.out.symm HD.out HK.out)
      have hbw : Below w3.heap.size w3 wr := by rw [← HBd.out]; exact HBr.out
      have hB1 := HB1.out.below hbw
      have hT := HT.out.trans (hbw.mono HT.out.size)
      have z0 := hB1.c0
      have z1 := hB1.c1
      clear hbw HMd HF HK HBr
      go_wp2_with fail
      refine (C2.out _ hT hB1.g).mono ?_
      rintro e v1 ⟨hF, hb⟩
      rw [HO.out] at hF
      obtain ⟨p1, l1, c1, q1, r1, d1, rfl, hGH⟩ := hF.says.graph
      replace hGH : GraphAt v1 p1 l1 q1 r1 H := hGH
      obtain rfl : v = r1 := by have := hGH.pl; have := HHl.out; omega
      unfold famRet
      simp only [erO]
      have hY1 := HYS.out.below hb
      replace hB1 := hB1.below hb
      replace hT := hT.trans (hb.mono hT.size)
      clear hb hF
      obtain ⟨u1, hu1⟩ : ∃ u, u = v1.alloc (.cells #[.slice p1 l1 c1, .slice q1 v d1] 25) := ⟨_, rfl⟩
      have hX1 := BoxG.make (c1 := c1) (c2 := d1) (t := 25) hGH
      have hbA := below_alloc v1 (.cells #[.slice p1 l1 c1, .slice q1 v d1] 25)
      replace hB1 := hB1.below hbA
      replace hY1 := hY1.below hbA
      replace hT := hT.trans (hbA.mono hT.size)
      have z0 := hB1.c0
      have z1 := hB1.c1
      have x0 := hX1.c0
      have x1 := hX1.c1
      clear hbA hGH
      go_wp2_with fail
      rw [← hu1] at hB1 hT hX1 hY1 x0 x1 z0 z1 ⊢
      clear hu1
      have hcall := relabelP_any p1 q1 l1 c1 v d1 H (some ⟨b, 0, none⟩) v (ysF f v) u1 hX1.g hY1
      rw [ysF_len, Hback.out _ HU.out] at hcall
      refine hcall.mono ?_
      rintro e v2 ⟨hF, hb⟩
      obtain ⟨p2, l2, c2, q2, r2, d2, rfl, hGH⟩ := hF.says.graph
      replace hGH : GraphAt v2 p2 l2 q2 r2 G := hGH
      obtain rfl : v = r2 := by have := hGH.pl; have := Hpl.out; omega
      unfold famRet
      simp only [erO]
      replace hB1 := hB1.below hb
      replace hX1 := hX1.below hb
      replace hT := hT.trans (hb.mono hT.size)
      clear hb hF hcall hY1
      obtain ⟨u2, hu2⟩ : ∃ u, u = v2.alloc (.cells #[.slice p2 l2 c2, .slice q2 v d2] 25) := ⟨_, rfl⟩
      have hX2 := BoxG.make (c1 := c2) (c2 := d2) (t := 25) hGH
      have hbA := below_alloc v2 (.cells #[.slice p2 l2 c2, .slice q2 v d2] 25)
      replace hB1 := hB1.below hbA
      replace hX1 := hX1.below hbA
      replace hT := hT.trans (hbA.mono hT.size)
      clear hbA hGH z0 z1 x0 x1
      go_wp2_with fail
      rw [← hu2] at hB1 hT hX1 hX2 ⊢
      clear hu2
      refine (mod_any a2 v _ H4.out hp1 (by omega)).mono ?_
      rintro e w5 ⟨rfl, rfl⟩
      rw [Hs.out]
      go_wp2_with fail
      have hdr : Below u2.heap.size u2 u2.drew := ⟨rfl, rfl, rfl, Nat.le_refl _, fun b _ => rfl⟩
      replace hB1 := hB1.below hdr
      replace hX1 := hX1.below hdr
      replace hX2 := hX2.below hdr
      replace hT := hT.trans (hdr.mono hT.size)
      clear hdr
      have z0 := hB1.c0
      have z1 := hB1.c1
      have x0 := hX1.c0
      have x1 := hX1.c1
      obtain ⟨d, hd, hdn⟩ := HD.out s hsl
      have HDs := Lib.hid hd
      have y0 := HZC.out _ hT s hsl
      rw [hd] at y0
      have d0 : (0 : Int) ≤ d := by omega
      have d1' : (d : Int) < v := by omega
      have s0 : (0 : Int) ≤ s := by omega
      have s1 : (s : Int) < v := by omega
      clear hd
      refine keep_start (fun w' => w'.cell? ⟨w.heap.size, 0, none⟩ = some (.slice ia il ic) ∧ w'.cell? ⟨w.heap.size, 1, none⟩ = some (.slice pa v pc) ∧ w'.cell? ⟨v1.heap.size, 0, none⟩ = some (.slice p1 l1 c1) ∧ w'.cell? ⟨v1.heap.size, 1, none⟩ = some (.slice q1 v d1) ∧ w'.cell? ⟨zb, zo + s, none⟩ = some (.int .i64 (d : Int))) [] (by kernel_rfl) ?_
      (refine keep_pure 1 (v := ?_) rfl (by kernel_rfl) (by kernel_rfl) (by kernel_rfl) (by kernel_rfl) (fun _ _ _ h => h) (Or.inl ⟨by rfl, ?_⟩) (.inr (by exact ⟨z0, z1, x0, x1, y0⟩)) ?_; rotate_left 1; focus (intro _; go_simp; (try go_ints); try (with_reducible rfl)); (try simp only [Act.put, List.setIfInBounds_toArray, List.set_cons_zero, List.set_cons_succ]))
      (refine keep_pure 4 (v := ?_) rfl (by kernel_rfl) (by kernel_rfl) (by kernel_rfl) (by kernel_rfl) (fun _ _ _ h => h) (Or.inl ⟨by rfl, ?_⟩) (.inr (by exact ⟨z0, z1, x0, x1, y0⟩)) ?_; rotate_left 1; focus (intro _; go_simp; (try go_ints); try (with_reducible rfl)); (try simp only [Act.put, List.setIfInBounds_toArray, List.set_cons_zero, List.set_cons_succ]))
      (refine keep_pure 5 (v := ?_) rfl (by kernel_rfl) (by kernel_rfl) (by kernel_rfl) (by kernel_rfl) (fun _ _ _ h => h) (Or.inl ⟨by rfl, ?_⟩) (.inr (by exact ⟨z0, z1, x0, x1, y0⟩)) ?_; rotate_left 1; focus (intro _; go_simp; (try go_ints); try (with_reducible rfl)); (try simp only [Act.put, List.setIfInBounds_toArray, List.set_cons_zero, List.set_cons_succ]))
      (refine keep_pure 6 (v := ?_) rfl (by kernel_rfl) (by kernel_rfl) (by kernel_rfl) (by kernel_rfl) (fun _ _ _ h => h) (Or.inl ⟨by rfl, ?_⟩) (.inr (by exact ⟨z0, z1, x0, x1, y0⟩)) ?_; rotate_left 1; focus (intro _; go_simp; (try go_ints); try (with_reducible rfl)); (try simp only [Act.put, List.setIfInBounds_toArray, List.set_cons_zero, List.set_cons_succ]))
      (refine keep_load 0 (v := ?_) rfl (by kernel_rfl) (by kernel_rfl) (by kernel_rfl) (by kernel_rfl) (by kernel_rfl) (by kernel_rfl) (fun _ _ _ h => h) (Or.inl ⟨by rfl, ?_⟩) (by exact ⟨z0, z1, x0, x1, y0⟩) ?_; rotate_left 1; focus (intro _ hSw; (first | (obtain ⟨_, _, _, _, _⟩ := hSw) | (obtain ⟨_, _, _, _⟩ := hSw) | (obtain ⟨_, _, _⟩ := hSw) | (obtain ⟨_, _⟩ := hSw) | skip); go_simp; (try go_ints); try (with_reducible rfl)); (try simp only [Act.put, List.setIfInBounds_toArray, List.set_cons_zero, List.set_cons_succ]))
      (refine keep_load 3 (v := ?_) rfl (by kernel_rfl) (by kernel_rfl) (by kernel_rfl) (by kernel_rfl) (by kernel_rfl) (by kernel_rfl) (fun _ _ _ h => h) (Or.inl ⟨by rfl, ?_⟩) (by exact ⟨z0, z1, x0, x1, y0⟩) ?_; rotate_left 1; focus (intro _ hSw; (first | (obtain ⟨_, _, _, _, _⟩ := hSw) | (obtain ⟨_, _, _, _⟩ := hSw) | (obtain ⟨_, _, _⟩ := hSw) | (obtain ⟨_, _⟩ := hSw) | skip); go_simp; (try go_ints); try (with_reducible rfl)); (try simp only [Act.put, List.setIfInBounds_toArray, List.set_cons_zero, List.set_cons_succ]))
      (refine keep_load 7 (v := ?_) rfl (by kernel_rfl) (by kernel_rfl) (by kernel_rfl) (by kernel_rfl) (by kernel_rfl) (by kernel_rfl) (fun _ _ _ h => h) (Or.inl ⟨by rfl, ?_⟩) (by exact ⟨z0, z1, x0, x1, y0⟩) ?_; rotate_left 1; focus (intro _ hSw; (first | (obtain ⟨_, _, _, _, _⟩ := hSw) | (obtain ⟨_, _, _, _⟩ := hSw) | (obtain ⟨_, _, _⟩ := hSw) | (obtain ⟨_, _⟩ := hSw) | skip); go_simp; (try go_ints); try (with_reducible rfl)); (try simp only [Act.put, List.setIfInBounds_toArray, List.set_cons_zero, List.set_cons_succ]))
      (refine keep_one 2 (by kernel_rfl) rfl ?_)
      intro K hK
      go_simp
      refine (distancesOf_any ia pa il ic v pc G s _ hB1.g HV.out hsl).mono ?_
      rintro e wa ⟨⟨fx, rfl, hfx, hMx⟩, hba⟩
      have hB1a := hB1.below hba
      have hX1a := hX1.below hba
      have hX2a := hX2.below hba
      have hTa := hT.trans (hba.mono hT.size)
      have y0a := (HZC.out _ hTa s hsl).trans (by rw [HDs.out])
      have HMx := Lib.hid hMx
      clear hMx hba
      refine hK _ _ (fun h => (by exact ⟨hB1a.c0, hB1a.c1, hX1a.c0, hX1a.c1, y0a⟩)) ?_
      clear hK K
      (try simp only [Act.put, List.setIfInBounds_toArray, List.set_cons_zero, List.set_cons_succ])
      (refine keep_one 8 (by kernel_rfl) rfl ?_)
      intro K hK
      go_simp
      refine (distancesOf_any p1 q1 l1 c1 v d1 H d _ hX1a.g HHV.out hdn).mono ?_
      rintro e wb ⟨⟨fy, rfl, hfy, hMy⟩, hbb⟩
      have hB1b := hB1a.below hbb
      have hX1b := hX1a.below hbb
      have hX2b := hX2a.below hbb
      have hTb := hTa.trans (hbb.mono hTa.size)
      have y0b := (HZC.out _ hTb s hsl).trans (by rw [HDs.out])
      have HMx2 : Hid (∀ i, i < v → wb.cell? ⟨fx, i, none⟩ = some (.int .i64 (distF G s i))) := Lib.hid (fun i hi => (hbb.cell (p := ⟨fx, i, none⟩) HMx.out.1).trans (HMx.out.2 i hi).1)
      have HMy := Lib.hid hMy
      clear hMy hbb
      refine hK _ _ (fun h => (by exact ⟨hB1b.c0, hB1b.c1, hX1b.c0, hX1b.c1, y0b⟩)) ?_
      clear hK K
      (try simp only [Act.put, List.setIfInBounds_toArray, List.set_cons_zero, List.set_cons_succ])
      (refine keep_pure 9 (v := ?_) rfl (by kernel_rfl) (by kernel_rfl) (by kernel_rfl) (by kernel_rfl) (fun _ _ _ h => h) (Or.inl ⟨by rfl, ?_⟩) (.inr (by exact ⟨hB1b.c0, hB1b.c1, hX1b.c0, hX1b.c1, y0b⟩)) ?_; rotate_left 1; focus (intro _; go_simp; (try go_ints); try (with_reducible rfl)); (try simp only [Act.put, List.setIfInBounds_toArray, List.set_cons_zero, List.set_cons_succ]))
      (refine keep_pure 10 (v := ?_) rfl (by kernel_rfl) (by kernel_rfl) (by kernel_rfl) (by kernel_rfl) (fun _ _ _ h => h) (Or.inl ⟨by rfl, ?_⟩) (.inr (by exact ⟨hB1b.c0, hB1b.c1, hX1b.c0, hX1b.c1, y0b⟩)) ?_; rotate_left 1; focus (intro _; go_simp; (try go_ints); try (with_reducible rfl)); (try simp only [Act.put, List.setIfInBounds_toArray, List.set_cons_zero, List.set_cons_succ]))
      (refine keep_done (by kernel_rfl) ?_)
      clear z0 z1 x0 x1 y0 hB1 hX1 hX2 hT hB1a hX1a hX2a hTa y0a y0b HMx
      have z0 := hB1b.c0
      have z1 := hB1b.c1
      have x0 := hX2b.c0
      have x1 := hX2b.c1
      go_wp2_with fail
      refine (same_any _ _ _ _ _ _ _ _ _ _ _ _ G G _ hB1b.g hX2b.g).mono ?_
      rintro e wc ⟨rfl, hbc⟩
      rw [sameB_mk rfl rfl]
      have hTc := hTb.trans (hbc.mono hTb.size)
      have hB1c := hB1b.below hbc
      have hX1c := hX1b.below hbc
      have hMx : ∀ i, i < v → wc.cell? ⟨fx, i, none⟩ = some (.int .i64 (distF G s i)) := fun i hi => (hbc.cell (p := ⟨fx, i, none⟩) (cell_lt (HMx2.out i hi))).trans (HMx2.out i hi)
      have hMy : ∀ i, i < v → wc.cell? ⟨fy, i, none⟩ = some (.int .i64 (distF H d i)) := fun i hi => (hbc.cell (p := ⟨fy, i, none⟩) HMy.out.1).trans (HMy.out.2 i hi).1
      have HX := Lib.hid hMx
      have HY := Lib.hid hMy
      have HTc := Lib.hid hTc
      have HB1c := Lib.hid hB1c
      have HX1c := Lib.hid hX1c
      clear hMx hMy hTc hbc hB1b hX1b hX2b hTb HMx2 HMy x0 x1 hB1c hX1c z0 z1
      have z0 := HB1c.out.c0
      have z1 := HB1c.out.c1
      go_wp2_with fail
      go_loopw [15] (fun t wr => ∃ k : Nat, t = .int .i64 k ∧ k ≤ v ∧ Below wc.heap.size wc wr) (fun t _ => v - (intOf t).toNat)
      case atStart => exact ⟨0, rfl, Nat.zero_le _, by first | exact Below.refl _ _ | exact belDraws (Below.refl _ _) _⟩
      case round =>
        clear z0 z1
        obtain ⟨k, rfl, hkn, hbr⟩ := hrel
        have HBr := Lib.hid hbr
        clear hbr
        by_cases hlt : k < v
        · obtain ⟨e, he, hen⟩ := HD.out k hlt
          have c1' := (HBr.out.cell (p := ⟨fx, k, none⟩) (cell_lt (HX.out k hlt))).trans (HX.out k hlt)
          have c2' := (HBr.out.cell (p := ⟨fy, e, none⟩) (cell_lt (HY.out e hen))).trans (HY.out e hen)
          rw [Hdist.out _ HU.out s k d e hsl hlt HDs.out he] at c2'
          have HCP : Hid (∀ W, Below wc.heap.size wc W → W.cell? ⟨zb, zo + k, none⟩ = some (.int .i64 (e : Int))) := Lib.hid (fun W h => by
            have := HZC.out W (HTc.out.trans (h.mono HTc.out.size)) k hlt
            rw [he] at this
            exact this)
          have HGB : Hid (∀ W, Below wc.heap.size wc W → GraphAt W ia il pa v G) := Lib.hid (fun W h => (HB1c.out.below h).g)
          have HHB : Hid (∀ W, Below wc.heap.size wc W → GraphAt W p1 l1 q1 v H) := Lib.hid (fun W h => (HX1c.out.below h).g)
          have hdg := Hdeg.out k e hlt he
          obtain ⟨y, hy⟩ : ∃ y, y = degF G k := ⟨_, rfl⟩
          have HY1 : Hid (degF G k = y) := Lib.hid hy.symm
          have HY2 : Hid (degF H e = y) := Lib.hid (hdg.trans hy.symm)
          have cp := HCP.out wr HBr.out
          have z0 := (HB1c.out.below HBr.out).c0
          have z1 := (HB1c.out.below HBr.out).c1
          have x0 := (HX1c.out.below HBr.out).c0
          have x1 := (HX1c.out.below HBr.out).c1
          clear hy hdg he
          generalize distF G s k = x at c1' c2'
          have HFX : Hid (∀ W, Below wc.heap.size wc W → W.cell? ⟨fx, k, none⟩ = some (.int .i64 x)) := Lib.hid (fun W h => by rw [← c1', h.cell (p := ⟨fx, k, none⟩) (cell_lt (HX.out k hlt)), HBr.out.cell (p := ⟨fx, k, none⟩) (cell_lt (HX.out k hlt))])
          have HFY : Hid (∀ W, Below wc.heap.size wc W → W.cell? ⟨fy, e, none⟩ = some (.int .i64 x)) := Lib.hid (fun W h => by rw [← c2', h.cell (p := ⟨fy, e, none⟩) (cell_lt (HY.out e hen)), HBr.out.cell (p := ⟨fy, e, none⟩) (cell_lt (HY.out e hen))])
          have HS : Hid (∀ W, Below wc.heap.size wc W → (fun w' => w'.cell? ⟨w.heap.size, 0, none⟩ = some (.slice ia il ic) ∧ w'.cell? ⟨w.heap.size, 1, none⟩ = some (.slice pa v pc) ∧ w'.cell? ⟨v1.heap.size, 0, none⟩ = some (.slice p1 l1 c1) ∧ w'.cell? ⟨v1.heap.size, 1, none⟩ = some (.slice q1 v d1) ∧ w'.cell? ⟨zb, zo + k, none⟩ = some (.int .i64 (e : Int)) ∧ w'.cell? ⟨fx, k, none⟩ = some (.int .i64 x) ∧ w'.cell? ⟨fy, e, none⟩ = some (.int .i64 x) ∧ Below wc.heap.size wc w') W) := Lib.hid (fun W h => ⟨(HB1c.out.below h).c0, (HB1c.out.below h).c1, (HX1c.out.below h).c0, (HX1c.out.below h).c1, HCP.out W h, HFX.out W h, HFY.out W h, h⟩)
          have k0 : (0 : Int) ≤ k := by omega
          have k1 : (k : Int) < v := by omega
          have e0 : (0 : Int) ≤ e := by omega
          have e1 : (e : Int) < v := by omega
          have n1 : (x != x) = false := by simp
          have n2 : (y != y) = false := by simp
          go_wp2_with fail
          go_region_held3 (fun w' => w'.cell? ⟨w.heap.size, 0, none⟩ = some (.slice ia il ic) ∧ w'.cell? ⟨w.heap.size, 1, none⟩ = some (.slice pa v pc) ∧ w'.cell? ⟨v1.heap.size, 0, none⟩ = some (.slice p1 l1 c1) ∧ w'.cell? ⟨v1.heap.size, 1, none⟩ = some (.slice q1 v d1) ∧ w'.cell? ⟨zb, zo + k, none⟩ = some (.int .i64 (e : Int)) ∧ w'.cell? ⟨fx, k, none⟩ = some (.int .i64 x) ∧ w'.cell? ⟨fy, e, none⟩ = some (.int .i64 x) ∧ Below wc.heap.size wc w') (exact HS.out _ (by first | exact hD3 | exact hD2 | exact (belDraws HBr.out _).drew | exact belDraws HBr.out _ | exact HBr.out)) (first | (go_at_call 16; (with_reducible refine (degree_any ia pa il ic v pc G k _ ?_).mono ?_); exact HGB.out _ (by first | exact hD2 | exact (belDraws HBr.out _).drew | exact belDraws HBr.out _ | exact HBr.out | exact (‹_ ∧ _ ∧ _ ∧ _ ∧ _ ∧ _ ∧ _ ∧ Below wc.heap.size _ _›).2.2.2.2.2.2.2); rintro ee w2 ⟨rfl, hb2⟩; rw [HY1.out]; have hD2 : Below wc.heap.size wc w2 := by first | exact hD2.trans (hb2.mono hD2.size) | exact (belDraws HBr.out _).drew.trans (hb2.mono (belDraws HBr.out _).drew.size) | exact (belDraws HBr.out _).trans (hb2.mono (belDraws HBr.out _).size) | exact HBr.out.trans (hb2.mono HBr.out.size) | exact (‹_ ∧ _ ∧ _ ∧ _ ∧ _ ∧ _ ∧ _ ∧ Below wc.heap.size _ _›).2.2.2.2.2.2.2.trans (hb2.mono (‹_ ∧ _ ∧ _ ∧ _ ∧ _ ∧ _ ∧ _ ∧ Below wc.heap.size _ _›).2.2.2.2.2.2.2.size)) | (go_at_call 16; (with_reducible refine (degree_any p1 q1 l1 c1 v d1 H e _ ?_).mono ?_); exact HHB.out _ (by first | exact hD2 | exact (belDraws HBr.out _).drew | exact belDraws HBr.out _ | exact HBr.out | exact (‹_ ∧ _ ∧ _ ∧ _ ∧ _ ∧ _ ∧ _ ∧ Below wc.heap.size _ _›).2.2.2.2.2.2.2); rintro ee w3 ⟨rfl, hb2⟩; rw [HY2.out]; have hD3 : Below wc.heap.size wc w3 := by first | exact hD2.trans (hb2.mono hD2.size) | exact (belDraws HBr.out _).drew.trans (hb2.mono (belDraws HBr.out _).drew.size) | exact (belDraws HBr.out _).trans (hb2.mono (belDraws HBr.out _).size) | exact HBr.out.trans (hb2.mono HBr.out.size) | exact (‹_ ∧ _ ∧ _ ∧ _ ∧ _ ∧ _ ∧ _ ∧ Below wc.heap.size _ _›).2.2.2.2.2.2.2.trans (hb2.mono (‹_ ∧ _ ∧ _ ∧ _ ∧ _ ∧ _ ∧ _ ∧ Below wc.heap.size _ _›).2.2.2.2.2.2.2.size)))
          go_wp2_with fail
          go_roundw
          case rel => exact ⟨k + 1, by go_num, by omega, by first | exact hD3 | exact belDraws hD3 _⟩
          case measure => simp [intOf]; omega
        · obtain rfl : k = v := by omega
          go_wp2_with (go_at_call 6; refine (awake_any _).mono ?_; rintro e w5 ⟨rfl, hb7⟩)
          go_ret
          have hb8 := HTc.out.trans (HBr.out.mono HTc.out.size)
          exact ⟨rfl, hb8.trans (hb7.mono hb8.size)⟩

set_option maxRecDepth 100000 in
theorem lifted (os : Os) (started : os.Started) (H : Type) (enc : TypeId × Value → H) :
    ReturnsInHanded {} Try.checked os 4 .any (Rows.familyRelabelsBackSpec.pre6 enc Try.prog Try.f4 Rows.familyRelabelsBackRow.domain false) (Rows.familyRelabelsBackSpec.post enc Try.prog Try.f4 false true false false) := by
  refine returnsInHanded_of_change (C := Try.checked) own started (by kernel_rfl) Try.func4
    (ChangeSpec.witness6 (enc := enc) (C := Try.checked) false ⟨#[], #[.agg #[.slice none 0 0, .slice none 0 0], .slice none 0 0, .int .i64 0], []⟩ 8 (by kernel_rfl) (by kernel_rfl) (by kernel_rfl) (by kernel_rfl)) ?_
  intro W base args ds gs before hval0 hW hcnd _
  have hval : ∀ (j : Nat) t v, Try.f4.params[j]? = some t → args[j]? = some v → Value.okWide Try.prog W .any base t v := hval0
  have hW' := hW
  obtain ⟨p, q, hA0, hV, rfl, hfz, hnd⟩ := hW
  have hA : DataW.TrodAll enc Try.prog W 0 (fun _ => true) true Try.f4.params.toList args.toList ds p := hA0
  rw [Try.params4] at hA hval
  obtain ⟨v0, vs0, d0, ds0, p0, q0, hargs, rfl, rfl, h0, r0⟩ := trodAll_cons hA
  obtain ⟨v1, vs1, d1, ds1, p1, q1, rfl, rfl, rfl, h1, r1⟩ := trodAll_cons r0
  obtain ⟨v2, vs2, d2, ds2, p2, q2, rfl, rfl, rfl, h2, r2⟩ := trodAll_cons r1
  obtain ⟨rfl, rfl, rfl⟩ := trodAll_nil r2
  obtain rfl : args = #[v0, v1, v2] := by cases args; simp_all
  obtain ⟨rfl, rfl⟩ := trodVars_none hV
  have k0 := h0
  have lt0 : ∀ x ∈ p0, x.block < W.heap.size := by obtain ⟨m, hm⟩ := k0; exact DataW.trod_lt m _ _ _ hm
  obtain ⟨ia0, il0, ic0, pa0, pl0, pc0, G0, rfl, hG0⟩ := open_graph (hval 0 25 v0 rfl rfl) h0
  have k1 := h1
  have lt1 : ∀ x ∈ p1, x.block < W.heap.size := by obtain ⟨m, hm⟩ := k1; exact DataW.trod_lt m _ _ _ hm
  obtain ⟨sa1, sl1, sc1, rfl⟩ := okWide_slice Try.underlying22 (hval 1 22 v1 rfl rfl)
  obtain ⟨m1, hm1⟩ := h1
  obtain ⟨xa1, xl1, xc1, zs1, hv1, hl1, hI1⟩ := ints_of Try.underlying22 Try.underlying3 (by kernel_rfl) hm1
  injection hv1 with e1a e1b e1c
  subst e1a e1b e1c hl1
  have k2 := h2
  have lt2 : ∀ x ∈ p2, x.block < W.heap.size := by obtain ⟨m, hm⟩ := k2; exact DataW.trod_lt m _ _ _ hm
  obtain ⟨a2, rfl, rfl, rfl, w2⟩ := open_int Try.underlying3 (hval 2 3 v2 rfl rfl) h2
  clear hA0 hval0
  refine (walk W ia0 il0 ic0 pa0 pl0 pc0 G0 hG0 sa1 sc1 zs1 hI1 a2 w2).mono fun e W' ⟨he, bel⟩ => ?_
  subst he
  exact ⟨_, rfl, _, _, _, [], _, [], hW', trodAll_mk1 (shut_bool Try.underlying4 _), (trodAll_cons_mk (Below.trod laidOut (by kernel_rfl) (of_decide_eq_true (by kernel_rfl)) k0 bel lt0) (trodAll_cons_mk (Below.trod laidOut (by kernel_rfl) (of_decide_eq_true (by kernel_rfl)) k1 bel lt1) (trodAll_cons_mk (Below.trod laidOut (by kernel_rfl) (of_decide_eq_true (by kernel_rfl)) k2 bel lt2) trodAll_mk0))), rfl, bel.frame _, fun h => by cases h⟩

theorem over : Rows.familyRelabelsBackRow.holds Try.pinned (OpenSpec.ofChange Rows.familyRelabelsBackSpec) :=
  OpenClaim.holds_of_wide 4 Try.f4 rfl rfl rfl rfl rfl rfl rfl ⟨rfl, rfl, rfl, rfl, rfl⟩ rfl rfl rfl rfl rfl (by kernel_rfl) Try.func4 (by kernel_rfl)
    (of_decide_eq_true (by kernel_rfl)) (by unfold Func.isWrapper; first | (rw [if_pos (by decide +kernel)]; kernel_rfl) | (rw [if_neg (by decide +kernel)]; exact ⟨rfl, rfl⟩))
    (fun os started H enc _ => lifted os started H enc)

theorem proved : Rows.FamilyRelabelsBackSaid := over
end Go.Proofs.Ytfbbkiibhdgojaa.lawFamilyRelabelsBack
