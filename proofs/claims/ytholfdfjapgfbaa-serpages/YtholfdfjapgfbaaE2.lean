/-
  What the document's own Right answers: the length of the right sequence that begins at a place, 0 where none does.
-/
import Derived.Test.YtholfdfjapgfbaaE1
namespace Go.Proofs.Ytholfdfjapgfbaa
open Go.RowKit
open Utf1

set_option maxHeartbeats 4000000 in
theorem right_ref (s : ByteArray) (pos : Nat) (w : World) (hs : s.size ≤ 100000) (hp : pos < s.size) :
    Calls Try.prog 31 #[.string s, .int .i64 pos] w fun e w' => e = .returned (.int .i64 (rt ((bl s).drop pos) : Nat)) ∧ w = w' := by
  have hlen : ((bl s).drop pos).length = s.size - pos := by rw [List.length_drop, bl_len]
  have i0 : ∀ w, (Instr.index 9 (.string s) (.int .i64 (pos : Int))).run Try.prog w = .ok (.int .u8 (atN ((bl s).drop pos) 0 : Nat)) w := idx_run s pos 0 hp
  have i1 : pos + 1 < s.size → ∀ w, (Instr.index 9 (.string s) (.int .i64 ((pos : Int) + 1))).run Try.prog w = .ok (.int .u8 (atN ((bl s).drop pos) 1 : Nat)) w := fun h => idx_run s pos 1 h
  have i2 : pos + 2 < s.size → ∀ w, (Instr.index 9 (.string s) (.int .i64 ((pos : Int) + 2))).run Try.prog w = .ok (.int .u8 (atN ((bl s).drop pos) 2 : Nat)) w := fun h => idx_run s pos 2 h
  have i3 : pos + 3 < s.size → ∀ w, (Instr.index 9 (.string s) (.int .i64 ((pos : Int) + 3))).run Try.prog w = .ok (.int .u8 (atN ((bl s).drop pos) 3 : Nat)) w := fun h => idx_run s pos 3 h
  unfold rt
  rw [hlen]
  generalize atN ((bl s).drop pos) 0 = A at *
  generalize atN ((bl s).drop pos) 1 = B at *
  generalize atN ((bl s).drop pos) 2 = C at *
  generalize atN ((bl s).drop pos) 3 = D at *
  by_cases h1 : A < 128
  · rw [show rtN (s.size - pos) A B C D = 1 from by unfold rtN; (repeat' split); all_goals omega]
    exact right_one s pos A B C D w hs hp (by omega) i0
  · by_cases h2 : A < 194
    · rw [show rtN (s.size - pos) A B C D = 0 from by unfold rtN; (repeat' split); all_goals omega]
      exact right_low s pos A B C D w hs hp (by omega) (by omega) i0
    · by_cases h3 : 244 < A
      · rw [show rtN (s.size - pos) A B C D = 0 from by unfold rtN; (repeat' split); all_goals omega]
        exact right_high s pos A B C D w hs hp (by omega) i0
      · by_cases h4 : A ≤ 223
        · skip
          by_cases hn : s.size < pos + 2
          · rw [show rtN (s.size - pos) A B C D = 0 from by unfold rtN; (repeat' split); all_goals omega]
            exact right_two_short s pos A B C D w hs hp (by omega) (by omega) hn i0
          · have hn : pos + 2 ≤ s.size := by omega
            by_cases hb : B < 128
            · rw [show rtN (s.size - pos) A B C D = 0 from by unfold rtN; (repeat' split); all_goals omega]
              exact right_two_lo s pos A B C D w hs hp (by omega) (by omega) hn (by omega) i0 (i1 (by omega))
            · by_cases hb2 : 191 < B
              · rw [show rtN (s.size - pos) A B C D = 0 from by unfold rtN; (repeat' split); all_goals omega]
                exact right_two_hi s pos A B C D w hs hp (by omega) (by omega) hn (by omega) (by omega) i0 (i1 (by omega))
              · rw [show rtN (s.size - pos) A B C D = 2 from by unfold rtN; (repeat' split); all_goals omega]
                exact right_two_ok s pos A B C D w hs hp (by omega) (by omega) hn (by omega) (by omega) i0 (i1 (by omega))
        · by_cases h5 : A = 224
          · skip
            by_cases hn : s.size < pos + 3
            · rw [show rtN (s.size - pos) A B C D = 0 from by unfold rtN; (repeat' split); all_goals omega]
              exact right_e0_short s pos A B C D w hs hp (by omega) hn i0
            · have hn : pos + 3 ≤ s.size := by omega
              by_cases hb : B < 160
              · rw [show rtN (s.size - pos) A B C D = 0 from by unfold rtN; (repeat' split); all_goals omega]
                exact right_e0_lo s pos A B C D w hs hp (by omega) hn (by omega) i0 (i1 (by omega))
              · by_cases hb2 : 191 < B
                · rw [show rtN (s.size - pos) A B C D = 0 from by unfold rtN; (repeat' split); all_goals omega]
                  exact right_e0_hi s pos A B C D w hs hp (by omega) hn (by omega) (by omega) i0 (i1 (by omega))
                · by_cases hc : C < 128 ∨ 191 < C
                  · rw [show rtN (s.size - pos) A B C D = 0 from by unfold rtN; (repeat' split); all_goals omega]
                    exact right_e0_c s pos A B C D w hs hp (by omega) hn (by omega) (by omega) (by omega) i0 (i1 (by omega)) (i2 (by omega))
                  · rw [show rtN (s.size - pos) A B C D = 3 from by unfold rtN; (repeat' split); all_goals omega]
                    exact right_e0_ok s pos A B C D w hs hp (by omega) hn (by omega) (by omega) (by omega) (by omega) i0 (i1 (by omega)) (i2 (by omega))
          · by_cases h6 : A = 237
            · skip
              by_cases hn : s.size < pos + 3
              · rw [show rtN (s.size - pos) A B C D = 0 from by unfold rtN; (repeat' split); all_goals omega]
                exact right_ed_short s pos A B C D w hs hp (by omega) hn i0
              · have hn : pos + 3 ≤ s.size := by omega
                by_cases hb : B < 128
                · rw [show rtN (s.size - pos) A B C D = 0 from by unfold rtN; (repeat' split); all_goals omega]
                  exact right_ed_lo s pos A B C D w hs hp (by omega) hn (by omega) i0 (i1 (by omega))
                · by_cases hb2 : 159 < B
                  · rw [show rtN (s.size - pos) A B C D = 0 from by unfold rtN; (repeat' split); all_goals omega]
                    exact right_ed_hi s pos A B C D w hs hp (by omega) hn (by omega) (by omega) i0 (i1 (by omega))
                  · by_cases hc : C < 128 ∨ 191 < C
                    · rw [show rtN (s.size - pos) A B C D = 0 from by unfold rtN; (repeat' split); all_goals omega]
                      exact right_ed_c s pos A B C D w hs hp (by omega) hn (by omega) (by omega) (by omega) i0 (i1 (by omega)) (i2 (by omega))
                    · rw [show rtN (s.size - pos) A B C D = 3 from by unfold rtN; (repeat' split); all_goals omega]
                      exact right_ed_ok s pos A B C D w hs hp (by omega) hn (by omega) (by omega) (by omega) (by omega) i0 (i1 (by omega)) (i2 (by omega))
            · by_cases h7 : A ≤ 239
              · skip
                by_cases hn : s.size < pos + 3
                · rw [show rtN (s.size - pos) A B C D = 0 from by unfold rtN; (repeat' split); all_goals omega]
                  exact right_three_short s pos A B C D w hs hp (by omega) (by omega) (beq_eq_false_iff_ne.2 (by omega)) hn i0
                · have hn : pos + 3 ≤ s.size := by omega
                  by_cases hb : B < 128
                  · rw [show rtN (s.size - pos) A B C D = 0 from by unfold rtN; (repeat' split); all_goals omega]
                    exact right_three_lo s pos A B C D w hs hp (by omega) (by omega) (beq_eq_false_iff_ne.2 (by omega)) hn (by omega) i0 (i1 (by omega))
                  · by_cases hb2 : 191 < B
                    · rw [show rtN (s.size - pos) A B C D = 0 from by unfold rtN; (repeat' split); all_goals omega]
                      exact right_three_hi s pos A B C D w hs hp (by omega) (by omega) (beq_eq_false_iff_ne.2 (by omega)) hn (by omega) (by omega) i0 (i1 (by omega))
                    · by_cases hc : C < 128 ∨ 191 < C
                      · rw [show rtN (s.size - pos) A B C D = 0 from by unfold rtN; (repeat' split); all_goals omega]
                        exact right_three_c s pos A B C D w hs hp (by omega) (by omega) (beq_eq_false_iff_ne.2 (by omega)) hn (by omega) (by omega) (by omega) i0 (i1 (by omega)) (i2 (by omega))
                      · rw [show rtN (s.size - pos) A B C D = 3 from by unfold rtN; (repeat' split); all_goals omega]
                        exact right_three_ok s pos A B C D w hs hp (by omega) (by omega) (beq_eq_false_iff_ne.2 (by omega)) hn (by omega) (by omega) (by omega) (by omega) i0 (i1 (by omega)) (i2 (by omega))
              · by_cases h8 : A = 240
                · skip
                  by_cases hn : s.size < pos + 4
                  · rw [show rtN (s.size - pos) A B C D = 0 from by unfold rtN; (repeat' split); all_goals omega]
                    exact right_f0_short s pos A B C D w hs hp (by omega) hn i0
                  · have hn : pos + 4 ≤ s.size := by omega
                    by_cases hb : B < 144
                    · rw [show rtN (s.size - pos) A B C D = 0 from by unfold rtN; (repeat' split); all_goals omega]
                      exact right_f0_lo s pos A B C D w hs hp (by omega) hn (by omega) i0 (i1 (by omega))
                    · by_cases hb2 : 191 < B
                      · rw [show rtN (s.size - pos) A B C D = 0 from by unfold rtN; (repeat' split); all_goals omega]
                        exact right_f0_hi s pos A B C D w hs hp (by omega) hn (by omega) (by omega) i0 (i1 (by omega))
                      · by_cases hc : C < 128 ∨ 191 < C
                        · rw [show rtN (s.size - pos) A B C D = 0 from by unfold rtN; (repeat' split); all_goals omega]
                          exact right_f0_c s pos A B C D w hs hp (by omega) hn (by omega) (by omega) (by omega) i0 (i1 (by omega)) (i2 (by omega))
                        · by_cases hd : D < 128 ∨ 191 < D
                          · rw [show rtN (s.size - pos) A B C D = 0 from by unfold rtN; (repeat' split); all_goals omega]
                            exact right_f0_d s pos A B C D w hs hp (by omega) hn (by omega) (by omega) (by omega) (by omega) (by omega) i0 (i1 (by omega)) (i2 (by omega)) (i3 (by omega))
                          · rw [show rtN (s.size - pos) A B C D = 4 from by unfold rtN; (repeat' split); all_goals omega]
                            exact right_f0_ok s pos A B C D w hs hp (by omega) hn (by omega) (by omega) (by omega) (by omega) (by omega) (by omega) i0 (i1 (by omega)) (i2 (by omega)) (i3 (by omega))
                · by_cases h9 : A = 244
                  · skip
                    by_cases hn : s.size < pos + 4
                    · rw [show rtN (s.size - pos) A B C D = 0 from by unfold rtN; (repeat' split); all_goals omega]
                      exact right_f4_short s pos A B C D w hs hp (by omega) hn i0
                    · have hn : pos + 4 ≤ s.size := by omega
                      by_cases hb : B < 128
                      · rw [show rtN (s.size - pos) A B C D = 0 from by unfold rtN; (repeat' split); all_goals omega]
                        exact right_f4_lo s pos A B C D w hs hp (by omega) hn (by omega) i0 (i1 (by omega))
                      · by_cases hb2 : 143 < B
                        · rw [show rtN (s.size - pos) A B C D = 0 from by unfold rtN; (repeat' split); all_goals omega]
                          exact right_f4_hi s pos A B C D w hs hp (by omega) hn (by omega) (by omega) i0 (i1 (by omega))
                        · by_cases hc : C < 128 ∨ 191 < C
                          · rw [show rtN (s.size - pos) A B C D = 0 from by unfold rtN; (repeat' split); all_goals omega]
                            exact right_f4_c s pos A B C D w hs hp (by omega) hn (by omega) (by omega) (by omega) i0 (i1 (by omega)) (i2 (by omega))
                          · by_cases hd : D < 128 ∨ 191 < D
                            · rw [show rtN (s.size - pos) A B C D = 0 from by unfold rtN; (repeat' split); all_goals omega]
                              exact right_f4_d s pos A B C D w hs hp (by omega) hn (by omega) (by omega) (by omega) (by omega) (by omega) i0 (i1 (by omega)) (i2 (by omega)) (i3 (by omega))
                            · rw [show rtN (s.size - pos) A B C D = 4 from by unfold rtN; (repeat' split); all_goals omega]
                              exact right_f4_ok s pos A B C D w hs hp (by omega) hn (by omega) (by omega) (by omega) (by omega) (by omega) (by omega) i0 (i1 (by omega)) (i2 (by omega)) (i3 (by omega))
                  · skip
                    by_cases hn : s.size < pos + 4
                    · rw [show rtN (s.size - pos) A B C D = 0 from by unfold rtN; (repeat' split); all_goals omega]
                      exact right_four_short s pos A B C D w hs hp (by omega) (by omega) hn i0
                    · have hn : pos + 4 ≤ s.size := by omega
                      by_cases hb : B < 128
                      · rw [show rtN (s.size - pos) A B C D = 0 from by unfold rtN; (repeat' split); all_goals omega]
                        exact right_four_lo s pos A B C D w hs hp (by omega) (by omega) hn (by omega) i0 (i1 (by omega))
                      · by_cases hb2 : 191 < B
                        · rw [show rtN (s.size - pos) A B C D = 0 from by unfold rtN; (repeat' split); all_goals omega]
                          exact right_four_hi s pos A B C D w hs hp (by omega) (by omega) hn (by omega) (by omega) i0 (i1 (by omega))
                        · by_cases hc : C < 128 ∨ 191 < C
                          · rw [show rtN (s.size - pos) A B C D = 0 from by unfold rtN; (repeat' split); all_goals omega]
                            exact right_four_c s pos A B C D w hs hp (by omega) (by omega) hn (by omega) (by omega) (by omega) i0 (i1 (by omega)) (i2 (by omega))
                          · by_cases hd : D < 128 ∨ 191 < D
                            · rw [show rtN (s.size - pos) A B C D = 0 from by unfold rtN; (repeat' split); all_goals omega]
                              exact right_four_d s pos A B C D w hs hp (by omega) (by omega) hn (by omega) (by omega) (by omega) (by omega) (by omega) i0 (i1 (by omega)) (i2 (by omega)) (i3 (by omega))
                            · rw [show rtN (s.size - pos) A B C D = 4 from by unfold rtN; (repeat' split); all_goals omega]
                              exact right_four_ok s pos A B C D w hs hp (by omega) (by omega) hn (by omega) (by omega) (by omega) (by omega) (by omega) (by omega) i0 (i1 (by omega)) (i2 (by omega)) (i3 (by omega))
end Go.Proofs.Ytholfdfjapgfbaa
