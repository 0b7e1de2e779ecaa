/-
  The law TokReads, walked: it answers true at every text.
-/
import Derived.Test.YtjmgcdeinjamiaaDoorY7
namespace Go.Proofs.YtjmgcdeinjamiaaDoor
open Go.RowKit
open Utf1

set_option maxHeartbeats 4000000 in
theorem lawReads (s : ByteArray) (w : World) (hg : Glob w) (hgm : GlobM w) : Calls Tryd.prog 3 #[.string s] w fun e w' => e = .returned (.bool true) ∧ Below w.heap.size w w' := by
  have HG := hide (And.intro hg hgm)
  clear hg hgm
  by_cases hs : 2000 < s.size
  · go_enter Tryd.func3, Tryd.ntmps3
    go_wp2_with fail
    refine (awake_any _ HG.out.1 HG.out.2).mono ?_
    rintro e w1 ⟨rfl, hb1⟩
    go_wp2_with fail
    go_ret
    exact ⟨rfl, hb1⟩
  have hs : s.size ≤ 2000 := by omega
  have HT := hide (fun w hg hgm => tokens_any s w (by omega) hg hgm)
  have HR := hide (fun w => rtokens_any s w (by omega))
  go_enter Tryd.func3, Tryd.ntmps3
  go_wp2_with fail
  refine (awake_any _ HG.out.1 HG.out.2).mono ?_
  rintro e w1 ⟨rfl, hb1⟩
  have HB1 := hide hb1
  clear hb1
  go_wp2_with fail
  refine (HT.out _ (HG.out.1.below HB1.out) (HG.out.2.below HB1.out)).mono ?_
  rintro e w2 ⟨v1, l1, rfl, hl1, htk1, hb2⟩
  have HL1 := hide hl1
  have HT1 := hide htk1
  have HB2 := hide (bel2 HB1.out hb2)
  clear hl1 htk1 hb2 HT
  go_wp2_with fail
  refine (HR.out _).mono ?_
  rintro e w3 ⟨v2, l2, rfl, hl2, htk2, hb3⟩
  have HSM := hide (same_any l1 l2 (HL1.out.trans hl2.symm) w3 _ _ v1 v2 (HT1.out.below hb3) htk2)
  have HB3 := hide (bel2 HB2.out hb3)
  clear hl2 htk2 hb3 HR
  go_wp2_with fail
  refine HSM.out.mono ?_
  rintro e w4 ⟨rfl, n, rfl⟩
  clear HSM
  go_wp2_with fail
  go_ret
  exact ⟨rfl, bel2 HB3.out (bel_drewN w3 n)⟩
end Go.Proofs.YtjmgcdeinjamiaaDoor
