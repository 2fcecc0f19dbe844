/- Rows of tokens read again, Same, and what every law of layer 4 asks: the example. -/
import Derived.Test.YtdbahiepihkagaaGreatDoorLexV
import Derived.Test.YtdbahiepihkagaaGreatDoorLexU
import Derived.Deep.QuietTactic
namespace Go.Proofs.YtdbahiepihkagaaGreatDoor
open Go.RowKit

theorem gap_bl {s : ByteArray} {k : Nat} (h : k < s.size) (hb : isBl s[k] = true) : gapC false s k = gapC false s (k + 1) := by
  have h1 : nextC false s[k] = false := by
    unfold nextC
    simp [isBl] at hb
    rcases hb with ((e | e) | e) | e <;> rw [e] <;> rfl
  rw [gap_yes h (by simp [hb]), h1]
theorem gap_hash {s : ByteArray} {k : Nat} (h : k < s.size) (hb : (s[k] == 35) = true) : gapC false s k = gapC true s k := by
  have h1 : ∀ c, nextC c s[k] = true := fun c => by simp [nextC, hb]
  rw [gap_yes h (by simp [h1]), gap_yes h (by simp [h1]), h1, h1]
theorem gap_in {s : ByteArray} {k : Nat} (h : k < s.size) (hb : (s[k] != 10) = true) : gapC true s k = gapC true s (k + 1) := by
  have h1 : nextC true s[k] = true := by simp [nextC, hb]
  rw [gap_yes h (by simp [h1]), h1]
theorem gap_lf {s : ByteArray} {k : Nat} (h : k < s.size) (hb : (s[k] != 10) = false) : gapC true s k = gapC false s k := by
  have e : s[k] = 10 := by simpa using hb
  have h1 : ∀ c, nextC c s[k] = false := fun c => by rw [e]; simp [nextC]
  have h2 : isBl s[k] = true := by rw [e]; rfl
  rw [gap_yes h (by simp [h2]), gap_yes h (by simp [h2]), h1, h1]
theorem gap_stay {s : ByteArray} {k : Nat} (h : k < s.size) (h1 : isBl s[k] = false) (h2 : (s[k] == 35) = false) : gapC false s k = k := gap_no h (by simp [nextC, h1, h2])
theorem bl_of {b : UInt8} (h : (b == 32) = true ∨ (b == 9) = true ∨ (b == 10) = true ∨ (b == 13) = true) : isBl b = true := by
  simp [isBl]
  simp at h
  rcases h with h | h | h | h <;> simp [h]
theorem bl_not {b : UInt8} (h1 : (b == 32) = false) (h2 : (b == 9) = false) (h3 : (b == 10) = false) (h4 : (b == 13) = false) : isBl b = false := by simp [isBl, h1, h2, h3, h4]
theorem bl_hash {b : UInt8} (h1 : (b == 35) = true) : (b == 32) = false ∧ (b == 9) = false ∧ (b == 10) = false ∧ (b == 13) = false := by
  have e : b = 35 := by simpa using h1
  subst e
  exact ⟨rfl, rfl, rfl, rfl⟩
set_option maxHeartbeats 2000000 in
theorem blanks_any (s : ByteArray) (i : Nat) (w : World) (hs : s.size ≤ 1000000) (hi : i ≤ s.size) :
    Calls Tryz.prog 55 #[.string s, .int .i64 (i : Int)] w fun e w' => e = .returned (.int .i64 (gapAt s i : Nat)) ∧ w' = w := by
  have HG : Hid (gapAt s i = gapC false s i) := Lib.hid rfl
  go_enter Tryz.func55, Tryz.ntmps55
  go_wp2
  go_loopw [1] (fun t wr => ∃ k : Nat, k ≤ s.size ∧ t = .int .i64 k ∧ gapAt s i = gapC false s k ∧ wr = w) (fun t _ => s.size - (intOf t).toNat)
  case atStart => exact ⟨i, hi, rfl, HG.out, rfl⟩
  case round =>
    clear HG
    obtain ⟨k, hk, rfl, hR, rfl⟩ := hrel
    have HR := Lib.hid hR
    clear hR
    by_cases hlt : k < s.size
    · have h32 : ((s[k].toNat : Int) == 32) = (s[k] == 32) := byte_eq s[k] 32 (by decide)
      have h9 : ((s[k].toNat : Int) == 9) = (s[k] == 9) := byte_eq s[k] 9 (by decide)
      have h10 : ((s[k].toNat : Int) == 10) = (s[k] == 10) := byte_eq s[k] 10 (by decide)
      have h13 : ((s[k].toNat : Int) == 13) = (s[k] == 13) := byte_eq s[k] 13 (by decide)
      have h35 : ((s[k].toNat : Int) == 35) = (s[k] == 35) := byte_eq s[k] 35 (by decide)
      have HB : Hid (((s[k] == 32) = true ∨ (s[k] == 9) = true ∨ (s[k] == 10) = true ∨ (s[k] == 13) = true) → gapAt s i = gapC false s (k + 1)) := Lib.hid fun h => HR.out.trans (gap_bl hlt (bl_of h))
      have HS : Hid ((s[k] == 32) = false → (s[k] == 9) = false → (s[k] == 10) = false → (s[k] == 13) = false → (s[k] == 35) = false → gapAt s i = k) := Lib.hid fun h1 h2 h3 h4 h5 => HR.out.trans (gap_stay hlt (bl_not h1 h2 h3 h4) h5)
      have HH : Hid ((s[k] == 35) = true → gapAt s i = gapC true s k) := Lib.hid fun h1 => HR.out.trans (gap_hash hlt h1)
      have HN : Hid ((s[k] == 35) = true → (s[k] != 10) = true) := Lib.hid fun h1 => by simp only [bne, (bl_hash h1).2.2.1]; rfl
      generalize hp : (s[k] == 32) = p at h32 HB HS
      generalize hq : (s[k] == 9) = q at h9 HB HS
      generalize hr : (s[k] == 10) = r at h10 HB HS
      generalize ht : (s[k] == 13) = t at h13 HB HS
      generalize hu : (s[k] == 35) = u at h35 HS HH HN
      have Hu := Lib.hid hu
      clear hp hq hr ht hu
      cases p
      · cases q
        · cases r
          · cases t
            · cases u
              · have HE := Lib.hid (HS.out rfl rfl rfl rfl rfl)
                go_wp2
                go_ret
                exact ⟨ret_int (by rw [HE.out]), rfl⟩
              · have HE := Lib.hid (HH.out rfl)
                have HN2 := Lib.hid (HN.out rfl)
                clear HS HH HB
                go_wp2
                go_loopw [1] (fun t wo => ∃ j : Nat, k ≤ j ∧ j ≤ s.size ∧ t = .int .i64 j ∧ gapAt s i = gapC true s j ∧ wo = wr) (fun t _ => s.size - (intOf t).toNat)
                case atStart => exact ⟨k, Nat.le_refl _, hk, rfl, HE.out, rfl⟩
                case round =>
                  clear HE h32 h9 h10 h13 h35
                  obtain ⟨j, hkj, hj, rfl, hR2, rfl⟩ := hrel
                  have HR2 := Lib.hid hR2
                  clear hR2
                  by_cases hlt2 : j < s.size
                  · have h10 : ((s[j].toNat : Int) != 10) = (s[j] != 10) := congrArg not (byte_eq s[j] 10 (by decide))
                    cases hx : s[j] != 10
                    · have HE := Lib.hid (HR2.out.trans (gap_lf hlt2 hx))
                      rw [hx] at h10
                      have hjk : k < j := by
                        rcases Nat.lt_or_ge k j with h | h
                        · exact h
                        · obtain rfl : j = k := by omega
                          exact absurd HN2.out (by rw [hx]; simp)
                      clear hx
                      go_wp2
                      go_roundw
                      case rel => exact ⟨j, by omega, rfl, HE.out, by trivial⟩
                      case measure => simp [intOf]; omega
                    · have HE := Lib.hid (HR2.out.trans (gap_in hlt2 hx))
                      rw [hx] at h10
                      clear hx
                      go_wp2
                      go_roundw
                      case rel => exact ⟨j + 1, by omega, by omega, by go_num, HE.out, by trivial⟩
                      case measure => simp [intOf]; omega
                  · obtain rfl : j = s.size := by omega
                    have HE := Lib.hid (HR2.out.trans ((gap_end (c := true) (Nat.le_refl _)).trans (gap_end (c := false) (Nat.le_refl _)).symm))
                    go_wp2
                    go_roundw
                    case rel => exact ⟨s.size, Nat.le_refl _, rfl, HE.out, by trivial⟩
                    case measure => simp [intOf]; omega
            · have HE := Lib.hid (HB.out (by simp))
              go_wp2
              go_roundw
              case rel => exact ⟨k + 1, by omega, by go_num, HE.out, by trivial⟩
              case measure => simp [intOf]; omega
          · have HE := Lib.hid (HB.out (by simp))
            go_wp2
            go_roundw
            case rel => exact ⟨k + 1, by omega, by go_num, HE.out, by trivial⟩
            case measure => simp [intOf]; omega
        · have HE := Lib.hid (HB.out (by simp))
          go_wp2
          go_roundw
          case rel => exact ⟨k + 1, by omega, by go_num, HE.out, by trivial⟩
          case measure => simp [intOf]; omega
      · have HE := Lib.hid (HB.out (by simp))
        go_wp2
        go_roundw
        case rel => exact ⟨k + 1, by omega, by go_num, HE.out, by trivial⟩
        case measure => simp [intOf]; omega
    · have HE := Lib.hid (HR.out.trans (gap_end (by omega)))
      go_wp2
      go_ret
      exact ⟨ret_int (by rw [HE.out]), rfl⟩
end Go.Proofs.YtdbahiepihkagaaGreatDoor
namespace Go.Proofs.YtdbahiepihkagaaGreatDoor
set_option maxRecDepth 100000
open Go.RowKit

def tokCells (ts : List Tok) : List Value := ts.flatMap fun t => [.int .i64 (t.kind : Int), .int .i64 (t.at_ : Int), .int .i64 (t.end_ : Int), .int .i64 (t.num : Int)]
theorem tokCells_len (ts : List Tok) : (tokCells ts).length = ts.length * 4 := by
  induction ts with
  | nil => rfl
  | cons t ts ih =>
    have e : tokCells (t :: ts) = .int .i64 (t.kind : Int) :: .int .i64 (t.at_ : Int) :: .int .i64 (t.end_ : Int) :: .int .i64 (t.num : Int) :: tokCells ts := rfl
    rw [e]
    simp [ih]
    omega
theorem tokCells_snoc (ts : List Tok) (t : Tok) : tokCells (ts ++ [t]) = tokCells ts ++ [.int .i64 (t.kind : Int), .int .i64 (t.at_ : Int), .int .i64 (t.end_ : Int), .int .i64 (t.num : Int)] := by simp [tokCells]
/-- the row of the tokens ts, that the call owns -/
def TokRow (base : Nat) (w : World) (v : Value) (ts : List Tok) : Prop := w.ownsRow base 51 4 v ts.length (tokCells ts)
/-- what a scan answers -/
def ScanSays (x : (Nat × Nat) ⊕ List Tok) (base : Nat) (e : Ending) (w' : World) : Prop :=
  match x with
  | .inl (p, f) => e = .returned (.tuple #[.slice none 0 0, .int .i64 (p : Int), .int .i64 (f : Int)])
  | .inr ts => ∃ v, e = .returned (.tuple #[v, .int .i64 0, .int .i64 0]) ∧ TokRow base w' v ts
theorem infoTok : (Tryz.prog.info? 51).map (fun i => (i.zero, i.size, i.bytes)) = some (some (.agg #[.int .i64 0, .int .i64 0, .int .i64 0, .int .i64 0]), 4, 32) := by kernel_rfl
theorem new_cells (w : World) (cs : Array Value) (t : TypeId) (j : Nat) (u : Value) (h : cs.toList[j]? = some u) : (w.alloc (.cells cs t)).cell? ((⟨w.heap.size, 0, none⟩ : Addr).add j) = some u := by
  rw [add_none, Nat.zero_add, World.cell?_alloc_new]
  simpa using h
theorem new_cells2 (w : World) (o : Obj) (cs : Array Value) (t : TypeId) (j : Nat) (u : Value) (h : cs.toList[j]? = some u) : ((w.alloc o).alloc (.cells cs t)).cell? ((⟨w.heap.size + 1, 0, none⟩ : Addr).add j) = some u := by
  have := new_cells (w.alloc o) cs t j u h
  simpa using this
theorem own_slice {w : World} {base : Nat} {e : TypeId} {s : Nat} {v : Value} {n : Nat} {xs : List Value} (h : w.ownsRow base e s v n xs) : ∃ a c, v = .slice a n c ∧ n ≤ maxLen ∧ (0 < n → ∃ g, a = some ⟨g, 0, none⟩ ∧ g < w.heap.size) := by
  rcases h.2 with ⟨rfl, rfl⟩ | ⟨g, cap, cur, rfl, _, hg, h1, h2, _⟩
  · exact ⟨none, 0, rfl, by unfold maxLen; omega, fun h => absurd h (by omega)⟩
  · exact ⟨some ⟨g, 0, none⟩, cap, rfl, by omega, fun _ => ⟨g, rfl, (Array.getElem?_eq_some_iff.1 hg).1⟩⟩
theorem own_cell {w : World} {base : Nat} {e : TypeId} {s : Nat} {g n c : Nat} {xs : List Value} (h : w.ownsRow base e s (.slice (some ⟨g, 0, none⟩) n c) n xs) {j : Nat} {u : Value} (hu : xs[j]? = some u) : w.cell? ⟨g, 0 + j, none⟩ = some u := by
  have := World.ownsRow.cells h (g := g) rfl j u hu
  rw [add_none] at this
  exact this
theorem own_below {w w' : World} {base B : Nat} {e : TypeId} {s : Nat} {v : Value} {n : Nat} {xs : List Value} (h : w.ownsRow base e s v n xs) (hb : Below B w w') (hB : B = w.heap.size) : w'.ownsRow base e s v n xs := by
  subst hB
  exact World.ownsRow.kept h (row := none) ⟨hb.os, hb.tape, hb.output, hb.size, fun k hk _ => hb.block k hk⟩ (by cases Value.ownBlock _ <;> simp)
theorem tok_errs {l : Bytes} {f : Nat} (h : tokF l = .inl f) : f = 4 ∨ f = 5 ∨ f = 2 := by
  unfold tokF at h
  split at h
  · injection h with h; exact .inl h.symm
  · split at h
    · split at h
      · injection h with h; exact .inr (.inl h.symm)
      · cases h
    · split at h
      · split at h
        · injection h with h; exact .inr (.inr h.symm)
        · cases h
      · split at h
        · injection h with h; exact .inl h.symm
        · cases h
/-- the scan so far: the tokens ts stand before place j, at which there is no gap -/
def Sofar (s : ByteArray) (ts : List Tok) (j : Nat) : Prop := scanB s.data.toList = andThen ts (scanR ts.length j (s.data.toList.drop j))
theorem Sofar.start {s : ByteArray} (h : s.size ≤ 16384) : Sofar s [] (gapAt s 0) := by
  unfold Sofar scanB gapAt
  rw [if_neg (by simp; omega), andThen_nil, scanG_R]
  simp
theorem Sofar.full {s : ByteArray} {ts : List Tok} {j : Nat} (h : Sofar s ts j) (hj : j < s.size) (h4 : ts.length = 4096) : scanB s.data.toList = .inl (j, 3) := by
  unfold Sofar at h
  rw [h]
  unfold scanR
  rw [if_neg (by rw [drop_at s hj]; simp), if_pos h4]
  rfl
theorem Sofar.bad {s : ByteArray} {ts : List Tok} {j f : Nat} (h : Sofar s ts j) (hj : j < s.size) (h4 : ts.length ≠ 4096) (hf : tokF (s.data.toList.drop j) = .inl f) : scanB s.data.toList = .inl (j, f) := by
  unfold Sofar at h
  rw [h]
  unfold scanR
  rw [if_neg (by rw [drop_at s hj]; simp), if_neg h4, hf]
  rfl
theorem Sofar.next {s : ByteArray} {ts : List Tok} {j : Nat} {t : Tk} (h : Sofar s ts j) (h4 : ts.length ≠ 4096) (ht : tokF (s.data.toList.drop j) = .inr t) : Sofar s (ts ++ [tokOf j t]) (gapAt s (j + t.len)) := by
  unfold Sofar at h ⊢
  rw [h, scanR_tok ht h4, ← andThen_app, scanG_R, List.drop_drop, List.drop_drop]
  unfold gapAt
  simp only [List.length_append, List.length_singleton]
theorem Sofar.done {s : ByteArray} {ts : List Tok} {j : Nat} (h : Sofar s ts j) (hj : s.size ≤ j) : scanB s.data.toList = .inr ts := by
  unfold Sofar at h
  rw [h, drop_end s hj]
  simp [scanR, andThen]
theorem scan_long {s : ByteArray} (h : 16384 < s.size) : scanB s.data.toList = .inl (0, 3) := by
  unfold scanB
  rw [if_pos (by simpa using h)]

set_option maxRecDepth 100000 in
set_option maxHeartbeats 4000000 in
theorem scan_any (s : ByteArray) (w : World) :
    Calls Tryz.prog 50 #[.string s] w fun e w' => ScanSays (scanB s.data.toList) w.heap.size e w' ∧ Below w.heap.size w w' := by
  obtain ⟨i0, hi, hz0, hz1, hz2⟩ := info_parts infoTok
  by_cases hs : 16384 < s.size
  · rw [scan_long hs]
    go_enter Tryz.func50, Tryz.ntmps50
    go_wp2
    go_ret3
    exact ⟨rfl, Below.refl _ _⟩
  have HSO := Lib.hid (Sofar.start (s := s) (by omega))
  have hgap := fun w0 => behindGap_any s 0 w0 (by omega) (Nat.zero_le _)
  obtain ⟨_, hg2⟩ := gapAt_le s (i := 0) (Nat.zero_le _)
  generalize gapAt s 0 = g at *
  go_enter Tryz.func50, Tryz.ntmps50
  go_wp2_with (go_at_call 98; refine (hgap _).mono ?_; rintro e w1 ⟨rfl, hb1⟩; have HB1 := Lib.hid hb1; clear hb1)
  clear hgap
  go_loopw [5, 6] (fun q t wr => ∃ (ts : List Tok) (j : Nat), j ≤ s.size ∧ t = .int .i64 j ∧ ts.length ≤ 4096 ∧ TokRow w.heap.size wr q ts ∧ Sofar s ts j ∧ Below w.heap.size w wr) (fun _ t _ => s.size - (intOf t).toNat)
  case atStart => exact ⟨[], g, hg2, rfl, Nat.zero_le _, World.ownsRow_nil _ _ _ _, HSO.out, HB1.out⟩
  case round =>
    clear HSO HB1
    obtain ⟨ts, j, hj, rfl, hts, hR, hS, hbel⟩ := hrel
    have HS := Lib.hid hS
    have hsz := hbel.size
    obtain ⟨qa, qc, rfl, hqm, _⟩ := own_slice hR
    have HR := Lib.hid hR
    have Hbel := Lib.hid hbel
    clear hS hbel hR
    by_cases hlt : j < s.size
    · by_cases h4 : ts.length = 4096
      · have HF := Lib.hid (HS.out.full hlt h4)
        have e4 : ((ts.length : Int) == 4096) = true := by simp; omega
        go_wp2
        go_ret3
        rw [HF.out]
        exact ⟨rfl, Hbel.out⟩
      · have e4 : ((ts.length : Int) == 4096) = false := by simp; omega
        have htk := fun w0 => token_any s j w0 (by omega) hlt
        cases ht : tokF (s.data.toList.drop j) with
        | inl f =>
          have HF := Lib.hid (HS.out.bad hlt h4 ht)
          have hf := tok_errs ht
          have hcall : ∀ w0, Calls Tryz.prog 99 #[.string s, .int .i64 (j : Int)] w0 fun e w' => e = .returned (.tuple #[tokV 0 0 0 0, .int .i64 (f : Int)]) ∧ Below w0.heap.size w0 w' := fun w0 => (htk w0).mono fun e w' ⟨h1, h2⟩ => ⟨(by
            rcases h1 with ⟨g, h1, h3⟩ | ⟨t, h1, _⟩
            · rw [ht] at h1
              injection h1 with h1
              rw [h1]; exact h3
            · rw [ht] at h1; cases h1), h2⟩
          have hf0 : ((f : Int) != 0) = true := by simp; omega
          unfold tokV at hcall
          clear htk ht hf
          go_wp2_with (go_at_call 99; refine (hcall _).mono ?_; rintro e w2 ⟨rfl, hb2⟩; have HB2 := Lib.hid (Hbel.out.trans (hb2.mono Hbel.out.size)); clear hb2)
          go_ret3
          rw [HF.out]
          exact ⟨rfl, HB2.out.alloc HB2.out.size _⟩
        | inr t =>
          have HN := Lib.hid (HS.out.next h4 ht)
          have htl := tok_len ht
          simp at htl
          obtain ⟨E, hE⟩ : ∃ E, j + t.len = E := ⟨_, rfl⟩
          have hcall : ∀ w0, Calls Tryz.prog 99 #[.string s, .int .i64 (j : Int)] w0 fun e w' => e = .returned (.tuple #[tokV t.kind j E t.num, .int .i64 0]) ∧ Below w0.heap.size w0 w' := fun w0 => (htk w0).mono fun e w' ⟨h1, h2⟩ => ⟨(by
            rcases h1 with ⟨g, h1, _⟩ | ⟨u, h1, h3⟩
            · rw [ht] at h1; cases h1
            · rw [ht] at h1
              injection h1 with h1
              subst h1; rw [← hE]; exact h3), h2⟩
          rw [hE] at HN
          have HT : Hid (tokOf j t = ⟨t.kind, j, E, t.num⟩) := Lib.hid (by rw [← hE]; rfl)
          have hgap2 := fun w0 => behindGap_any s E w0 (by omega) (by omega)
          obtain ⟨hg3, hg4⟩ := gapAt_le s (i := E) (by omega)
          have hjE : j < E := by omega
          unfold tokV at hcall
          clear htk ht htl hE
          generalize gapAt s E = G at *
          go_wp2_with (first | (go_at_call 99; refine (hcall _).mono ?_; rintro e w2 ⟨rfl, hb2⟩; have hR2 := own_below HR.out hb2 rfl; have hsz2 := (Hbel.out.trans (hb2.mono Hbel.out.size)).size) | (at_builtin; refine wpList_append_own _ rfl (.tmp 32) (.tmp 34) 47 rfl w.heap.size 51 i0 (.agg #[.int .i64 0, .int .i64 0, .int .i64 0, .int .i64 0]) 4 32 Tryz.underlying47 hi hz0 hz1 hz2 rfl (by decide) _ _ _ rfl ((hR2.alloc _).alloc _) ⟨w2.heap.size + 1, 0, none⟩ 1 1 [.int .i64 (t.kind : Int), .int .i64 (j : Int), .int .i64 (E : Int), .int .i64 (t.num : Int)] rfl rfl (new_cells2 _ _ #[.int .i64 (t.kind : Int), .int .i64 (j : Int), .int .i64 (E : Int), .int .i64 (t.num : Int)] _) (by intro u hu; simp at hu; rcases hu with rfl | rfl | rfl | rfl <;> rfl) (by unfold maxLen; omega) (by omega) (by simp; omega) ?_; intro v6 w6 hown6 hgrow6 hnil6; have hend : w6.cell? ⟨w2.heap.size, 2, none⟩ = some (.int .i64 (E : Int)) := hgrow6.cell (by simp [cell_push']) (fun e => by have := (hR2.lt _ e.symm).2; simp at this)) | (go_at_call 98; refine (hgap2 _).mono ?_; rintro e w7 ⟨rfl, hb7⟩))
          go_roundw
          case rel =>
            have hB6 := Below.grown (((Hbel.out.trans (hb2.mono Hbel.out.size)).alloc hsz2 _).alloc (by simp; omega) _) hgrow6 (by simp; omega) (fun k hk => (hR2.lt k hk).1)
            refine ⟨ts ++ [tokOf j t], G, hg4, rfl, by simp; omega, ?_, HN.out, hB6.trans (hb7.mono hB6.size)⟩
            unfold TokRow
            rw [List.length_append, List.length_singleton, tokCells_snoc, HT.out]
            exact own_below hown6 hb7 rfl
          case measure => simp [intOf]; omega
    · have HF := Lib.hid (HS.out.done (by omega))
      go_wp2
      go_ret3
      rw [HF.out]
      exact ⟨⟨_, rfl, HR.out⟩, Hbel.out⟩

set_option maxRecDepth 100000 in
set_option maxHeartbeats 4000000 in
theorem scanR_any (s : ByteArray) (w : World) :
    Calls Tryz.prog 30 #[.string s] w fun e w' => ScanSays (scanB s.data.toList) w.heap.size e w' ∧ Below w.heap.size w w' := by
  obtain ⟨i0, hi, hz0, hz1, hz2⟩ := info_parts infoTok
  by_cases hs : 16384 < s.size
  · rw [scan_long hs]
    go_enter Tryz.func30, Tryz.ntmps30
    go_wp2
    go_ret3
    exact ⟨rfl, Below.refl _ _⟩
  have HSO := Lib.hid (Sofar.start (s := s) (by omega))
  have hgap := fun w0 => blanks_any s 0 w0 (by omega) (Nat.zero_le _)
  obtain ⟨_, hg2⟩ := gapAt_le s (i := 0) (Nat.zero_le _)
  generalize gapAt s 0 = g at *
  go_enter Tryz.func30, Tryz.ntmps30
  go_wp2_with (go_at_call 55; refine (hgap _).mono ?_; rintro e w1 ⟨rfl, hw1⟩; have HB1 : Hid (Below w.heap.size w w1) := Lib.hid (by rw [hw1]; exact Below.refl _ _); clear hw1)
  clear hgap
  go_loopw [5, 6] (fun q t wr => ∃ (ts : List Tok) (j : Nat), j ≤ s.size ∧ t = .int .i64 j ∧ ts.length ≤ 4096 ∧ TokRow w.heap.size wr q ts ∧ Sofar s ts j ∧ Below w.heap.size w wr) (fun _ t _ => s.size - (intOf t).toNat)
  case atStart => exact ⟨[], g, hg2, rfl, Nat.zero_le _, World.ownsRow_nil _ _ _ _, HSO.out, HB1.out⟩
  case round =>
    clear HSO HB1
    obtain ⟨ts, j, hj, rfl, hts, hR, hS, hbel⟩ := hrel
    have HS := Lib.hid hS
    have hsz := hbel.size
    obtain ⟨qa, qc, rfl, hqm, _⟩ := own_slice hR
    have HR := Lib.hid hR
    have Hbel := Lib.hid hbel
    clear hS hbel hR
    by_cases hlt : j < s.size
    · by_cases h4 : ts.length = 4096
      · have HF := Lib.hid (HS.out.full hlt h4)
        have e4 : ((ts.length : Int) == 4096) = true := by simp; omega
        go_wp2
        go_ret3
        rw [HF.out]
        exact ⟨rfl, Hbel.out⟩
      · have e4 : ((ts.length : Int) == 4096) = false := by simp; omega
        have htk := fun w0 => tokenR_any s j w0 (by omega) hlt
        cases ht : tokF (s.data.toList.drop j) with
        | inl f =>
          have HF := Lib.hid (HS.out.bad hlt h4 ht)
          have hf := tok_errs ht
          have hcall : ∀ w0, Calls Tryz.prog 56 #[.string s, .int .i64 (j : Int)] w0 fun e w' => e = .returned (.tuple #[tokV 0 0 0 0, .int .i64 (f : Int)]) ∧ Below w0.heap.size w0 w' := fun w0 => (htk w0).mono fun e w' ⟨h1, h2⟩ => ⟨(by
            rcases h1 with ⟨g, h1, h3⟩ | ⟨t, h1, _⟩
            · rw [ht] at h1
              injection h1 with h1
              rw [h1]; exact h3
            · rw [ht] at h1; cases h1), h2⟩
          have hf0 : ((f : Int) != 0) = true := by simp; omega
          unfold tokV at hcall
          clear htk ht hf
          go_wp2_with (go_at_call 56; refine (hcall _).mono ?_; rintro e w2 ⟨rfl, hb2⟩; have HB2 := Lib.hid (Hbel.out.trans (hb2.mono Hbel.out.size)); clear hb2)
          go_ret3
          rw [HF.out]
          exact ⟨rfl, HB2.out.alloc HB2.out.size _⟩
        | inr t =>
          have HN := Lib.hid (HS.out.next h4 ht)
          have htl := tok_len ht
          simp at htl
          obtain ⟨E, hE⟩ : ∃ E, j + t.len = E := ⟨_, rfl⟩
          have hcall : ∀ w0, Calls Tryz.prog 56 #[.string s, .int .i64 (j : Int)] w0 fun e w' => e = .returned (.tuple #[tokV t.kind j E t.num, .int .i64 0]) ∧ Below w0.heap.size w0 w' := fun w0 => (htk w0).mono fun e w' ⟨h1, h2⟩ => ⟨(by
            rcases h1 with ⟨g, h1, _⟩ | ⟨u, h1, h3⟩
            · rw [ht] at h1; cases h1
            · rw [ht] at h1
              injection h1 with h1
              subst h1; rw [← hE]; exact h3), h2⟩
          rw [hE] at HN
          have HT : Hid (tokOf j t = ⟨t.kind, j, E, t.num⟩) := Lib.hid (by rw [← hE]; rfl)
          have hgap2 := fun w0 => blanks_any s E w0 (by omega) (by omega)
          obtain ⟨hg3, hg4⟩ := gapAt_le s (i := E) (by omega)
          have hjE : j < E := by omega
          unfold tokV at hcall
          clear htk ht htl hE
          generalize gapAt s E = G at *
          go_wp2_with (first | (go_at_call 56; refine (hcall _).mono ?_; rintro e w2 ⟨rfl, hb2⟩; have hR2 := own_below HR.out hb2 rfl; have hsz2 := (Hbel.out.trans (hb2.mono Hbel.out.size)).size) | (at_builtin; refine wpList_append_own _ rfl (.tmp 35) (.tmp 37) 47 rfl w.heap.size 51 i0 (.agg #[.int .i64 0, .int .i64 0, .int .i64 0, .int .i64 0]) 4 32 Tryz.underlying47 hi hz0 hz1 hz2 rfl (by decide) _ _ _ rfl ((hR2.alloc _).alloc _) ⟨w2.heap.size + 1, 0, none⟩ 1 1 [.int .i64 (t.kind : Int), .int .i64 (j : Int), .int .i64 (E : Int), .int .i64 (t.num : Int)] rfl rfl (new_cells2 _ _ #[.int .i64 (t.kind : Int), .int .i64 (j : Int), .int .i64 (E : Int), .int .i64 (t.num : Int)] _) (by intro u hu; simp at hu; rcases hu with rfl | rfl | rfl | rfl <;> rfl) (by unfold maxLen; omega) (by omega) (by simp; omega) ?_; intro v6 w6 hown6 hgrow6 hnil6; have hend : w6.cell? ⟨w2.heap.size, 2, none⟩ = some (.int .i64 (E : Int)) := hgrow6.cell (by simp [cell_push']) (fun e => by have := (hR2.lt _ e.symm).2; simp at this)) | (go_at_call 55; refine (hgap2 _).mono ?_; rintro e w7 ⟨rfl, hw7⟩; subst hw7))
          go_roundw
          case rel =>
            have hB6 := Below.grown (((Hbel.out.trans (hb2.mono Hbel.out.size)).alloc hsz2 _).alloc (by simp; omega) _) hgrow6 (by simp; omega) (fun k hk => (hR2.lt k hk).1)
            refine ⟨ts ++ [tokOf j t], G, hg4, rfl, by simp; omega, ?_, HN.out, hB6⟩
            unfold TokRow
            rw [List.length_append, List.length_singleton, tokCells_snoc, HT.out]
            exact hown6
          case measure => simp [intOf]; omega
    · have HF := Lib.hid (HS.out.done (by omega))
      go_wp2
      go_ret3
      rw [HF.out]
      exact ⟨⟨_, rfl, HR.out⟩, Hbel.out⟩
end Go.Proofs.YtdbahiepihkagaaGreatDoor
namespace Go.Proofs.YtdbahiepihkagaaGreatDoor
set_option maxRecDepth 100000
open Go.RowKit

/-- the i-th token -/
def tkA (ts : List Tok) (i : Nat) : Tok := ts.getD i ⟨0, 0, 0, 0⟩
theorem tkA_get {ts : List Tok} {i : Nat} (h : i < ts.length) : ts[i]? = some (tkA ts i) := by
  unfold tkA
  rw [List.getD_eq_getElem?_getD, List.getElem?_eq_getElem h]
  rfl
/-- A row of tokens. -/
structure TokAt (w : World) (a : Option Addr) (ts : List Tok) : Prop where
  size : ts.length ≤ maxLen
  row : 0 < ts.length → ∃ b, a = some ⟨b, 0, none⟩ ∧ b < w.heap.size ∧ ∀ i, i < ts.length →
    w.cell? ⟨b, i * 4, none⟩ = some (.int .i64 (tkA ts i).kind) ∧ w.cell? ⟨b, i * 4 + 1, none⟩ = some (.int .i64 (tkA ts i).at_) ∧
    w.cell? ⟨b, i * 4 + 2, none⟩ = some (.int .i64 (tkA ts i).end_) ∧ w.cell? ⟨b, i * 4 + 3, none⟩ = some (.int .i64 (tkA ts i).num)
theorem TokAt.below {w w' : World} {B : Nat} {a : Option Addr} {ts : List Tok} (h : TokAt w a ts) (hb : Below B w w') (hB : B = w.heap.size) : TokAt w' a ts := by
  subst hB
  refine ⟨h.size, fun h0 => ?_⟩
  obtain ⟨b, ha, hlt, hc⟩ := h.row h0
  exact ⟨b, ha, Nat.lt_of_lt_of_le hlt hb.size, fun i hi => ⟨(hb.cell (p := ⟨b, i * 4, none⟩) hlt).trans (hc i hi).1, (hb.cell (p := ⟨b, i * 4 + 1, none⟩) hlt).trans (hc i hi).2.1, (hb.cell (p := ⟨b, i * 4 + 2, none⟩) hlt).trans (hc i hi).2.2.1, (hb.cell (p := ⟨b, i * 4 + 3, none⟩) hlt).trans (hc i hi).2.2.2⟩⟩
theorem tokCells_at : ∀ {ts : List Tok} {i : Nat}, i < ts.length → (tokCells ts)[i * 4]? = some (.int .i64 (tkA ts i).kind) ∧ (tokCells ts)[i * 4 + 1]? = some (.int .i64 (tkA ts i).at_) ∧ (tokCells ts)[i * 4 + 2]? = some (.int .i64 (tkA ts i).end_) ∧ (tokCells ts)[i * 4 + 3]? = some (.int .i64 (tkA ts i).num)
  | t :: ts, 0, _ => ⟨rfl, rfl, rfl, rfl⟩
  | t :: ts, i + 1, h => by
    have ih := tokCells_at (ts := ts) (i := i) (by simpa using h)
    have e : tokCells (t :: ts) = .int .i64 (t.kind : Int) :: .int .i64 (t.at_ : Int) :: .int .i64 (t.end_ : Int) :: .int .i64 (t.num : Int) :: tokCells ts := rfl
    have e2 : tkA (t :: ts) (i + 1) = tkA ts i := rfl
    rw [e, e2, show (i + 1) * 4 = i * 4 + 1 + 1 + 1 + 1 by omega]
    exact ih
theorem tok_own {base : Nat} {w : World} {v : Value} {ts : List Tok} (h : TokRow base w v ts) : ∃ a c, v = .slice a ts.length c ∧ TokAt w a ts ∧ ts.length ≤ c := by
  have h' := h
  unfold TokRow at h'
  rcases h'.2 with ⟨rfl, h2⟩ | ⟨g, cap, cur, rfl, _, hg, h1, h2, _⟩
  · have hz : ts.length = 0 := by simpa using h2
    rw [hz]
    exact ⟨none, 0, rfl, ⟨by omega, fun h0 => absurd h0 (by omega)⟩, Nat.le_refl _⟩
  · refine ⟨some ⟨g, 0, none⟩, cap, rfl, ⟨by omega, fun _ => ⟨g, rfl, (Array.getElem?_eq_some_iff.1 hg).1, fun i hi => ?_⟩⟩, by omega⟩
    obtain ⟨e0, e1, e2, e3⟩ := tokCells_at hi
    have c0 := own_cell h' e0
    have c1 := own_cell h' e1
    have c2 := own_cell h' e2
    have c3 := own_cell h' e3
    rw [Nat.zero_add] at c0 c1 c2 c3
    exact ⟨c0, c1, c2, c3⟩

end Go.Proofs.YtdbahiepihkagaaGreatDoor
