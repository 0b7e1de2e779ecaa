/-
  The law DomNames, walked: it answers true at every name.
-/
import Derived.Test.YtkdppcpkigpmdaaG30
namespace Go.Proofs.Ytkdppcpkigpmdaa
open Go.RowKit
open Utf1

set_option maxRecDepth 100000 in
set_option maxHeartbeats 8000000 in
theorem lawNames_walk (name : ByteArray) (w : World) (hs : name.size ≤ maxLen) :
    Calls Try.prog 4 #[.string name] w fun e w' => e = .returned (.bool true) ∧ Below w.heap.size w w' := by
  unfold maxLen at hs
  by_cases hbig : 200 < name.size
  · go_enter Try.func4, Try.ntmps4
    go_wp2_with fail
    refine (awake_st _).mono ?_
    rintro e w1 ⟨rfl, hb1⟩
    go_wp2_with fail
    go_ret
    exact ⟨rfl, hb1⟩
  · have V1 := hide (fun w => void_any name w)
    have V2 := hide (fun w => rvoid_any name w)
    have B1 := hide (fun w => block_any name w)
    have B2 := hide (fun w => rblock_any name w)
    generalize decide (bl name ∈ voids) = V at *
    generalize decide (bl name ∈ blocks) = K at *
    go_enter Try.func4, Try.ntmps4
    go_wp2_with fail
    refine (awake_st _).mono ?_
    rintro e w1 ⟨rfl, hb1⟩
    have HB1 := hide hb1
    clear hb1
    go_wp2_with fail
    refine (V1.out _).mono ?_
    rintro e w2 ⟨rfl, rfl⟩
    go_wp2_with fail
    refine (V2.out _).mono ?_
    rintro e w3 ⟨rfl, hb3⟩
    have HB3 := hide (HB1.out.trans (hb3.mono HB1.out.size))
    clear hb3 HB1
    go_wp2_with fail
    refine (B1.out _).mono ?_
    rintro e w4 ⟨rfl, rfl⟩
    go_wp2_with fail
    refine (B2.out _).mono ?_
    rintro e w5 ⟨rfl, hb5⟩
    have HB5 := hide (HB3.out.trans (hb5.mono HB3.out.size))
    clear hb5 HB3
    go_wp2_with fail
    go_ret
    exact ⟨by simp, HB5.out⟩
end Go.Proofs.Ytkdppcpkigpmdaa
