/- What lines and, for each text, Parse of package graphtext answer. -/
import Derived.Test.YtahhndhaciijpaaDoorNodeG
import Derived.Test.YtahhndhaciijpaaDoorParseG
namespace Go.Proofs.YtahhndhaciijpaaDoor
open Go.RowKit

theorem trim_len (t : Bytes) (p : Bytes) : (Lib.trimSuffix t p).length ≤ t.length := by
  unfold Lib.trimSuffix
  split
  · rw [List.length_take]; omega
  · exact Nat.le_refl _
theorem linesG_any : LinesSay 19 linesT := by
  intro s w hg hs
  have hlen : s.data.toList.length = s.size := by simp
  have hl := trim_len s.data.toList [10]
  have hT := Lib.hid (lines_trim s.data.toList)
  rw [hlen] at hl
  have hsp := splitG_at (Lib.trimSuffix s.data.toList [10]) 10 w hg (by omega)
  have htr := trimG_at s 10 w hs
  clear hg hlen
  generalize Lib.trimSuffix s.data.toList [10] = u at *
  rw [hT.out] at hsp
  go_enter Tryd.func19, Tryd.ntmps19
  go_wp2_with (first | (go_at_call 33; refine htr.mono ?_; rintro e w1 ⟨rfl, rfl⟩) | (go_at_call 32; refine hsp.mono ?_; rintro e w2 ⟨rfl, hS, hb⟩))
  go_ret
  exact ⟨⟨_, _, rfl, Nat.le_refl _, hS⟩, hb⟩

set_option maxRecDepth 100000 in
theorem parseG_long (s : ByteArray) (w : World) (hs : 16384 < s.size) :
    Calls Tryd.prog 10 #[.string s] w fun e w' => ParseSays s.data.toList e w' ∧ Below w.heap.size w w' := by
  have d1 : decide (16384 < (s.size : Int)) = true := by simp; omega
  have hl : Hid (16384 < s.data.toList.length) := Lib.hid (by simpa using hs)
  go_enter Tryd.func10, Tryd.ntmps10
  go_wp2
  refine bodyPost_ret (v := .tuple #[.agg #[.slice none 0 0, .slice none 0 0], .int .i64 0, .int .i64 3]) (by rw [results_ctt rfl]; go_simp) rfl ?_
  exact ⟨.inl ⟨hl.out, rfl⟩, (Below.refl _ _).alloc (Nat.le_refl _) _⟩
theorem parseG_any (s : ByteArray) (w : World) (hg : Gl w) :
    Calls Tryd.prog 10 #[.string s] w fun e w' => ParseSays s.data.toList e w' ∧ Below w.heap.size w w' := by
  by_cases hs : s.size ≤ 16384
  · exact parseG_short linesG_any nodeG_any s w hg hs
  · exact parseG_long s w (by omega)
end Go.Proofs.YtahhndhaciijpaaDoor
