/-
  The law StyleFewer.
-/
import Derived.Test.YtnjbeehfnahdfaaDoorY13
namespace Go.Proofs.YtnjbeehfnahdfaaDoor
open Go.RowKit
open Utf1 Sty

theorem strArg_take {w : World} {p : Option Addr} {n c m : Nat} {ss : List ByteArray} (h : StrArg w (.slice p n c) ss) (hm : m ≤ n) : StrArg w (.slice p m c) (ss.take m) := by
  obtain ⟨p', c', e, h0, hc⟩ := h
  injection e with e1 e2 e3
  subst e1
  subst e3
  refine ⟨p, c, ?_, h0, ?_⟩
  · rw [List.length_take, Nat.min_eq_left (by omega)]
  · intro i s hi
    rw [List.getElem?_take] at hi
    split at hi
    · exact hc i s hi
    · cases hi

set_option maxRecDepth 100000 in
set_option maxHeartbeats 8000000 in
theorem lawFewer_walk (s : ByteArray) (v : Value) (ss : List ByteArray) (n : Int) (w : World) (hv : PArg w v ss) :
    Calls Tryd.prog 6 #[.string s, v, .int .i64 n] w fun e w' => e = .returned (.bool true) ∧ Below w.heap.size w w' := by
  have ca := awake_any
  have HV := hide hv
  have hcap : ∀ p n c, v = .slice p n c → n ≤ c := hv.cap
  obtain ⟨p, cap, rfl, -, -⟩ := hv.arg
  have hcap := hcap _ _ _ rfl
  clear hv
  by_cases hs : s.size ≤ 3000
  · by_cases hl : ss.length ≤ 50
    · by_cases hn0 : 0 ≤ n
      · have HCN := hide (fun w (h : PArg w (.slice p ss.length cap) ss) => names_any (.slice p ss.length cap) ss (by omega) w h)
        have HC1 := hide (fun w (h : StrArg w (.slice p ss.length cap) ss) => filter_any s (.slice p ss.length cap) ss (by omega) (by omega) w h)
        obtain ⟨m, hm⟩ : ∃ m : Nat, n.tmod ((ss.length : Int) + 1) = (m : Int) := ⟨(n.tmod ((ss.length : Int) + 1)).toNat, by
          have := Int.tmod_nonneg ((ss.length : Int) + 1) hn0
          omega⟩
        have hmN : m ≤ ss.length := by
          have := Int.tmod_lt_of_pos n (show 0 < (ss.length : Int) + 1 by omega)
          omega
        obtain ⟨T, hT⟩ : ∃ T : ByteArray, T = ⟨(filt (ss.map bl) (bl s)).toArray⟩ := ⟨_, rfl⟩
        have hTb : bl T = filt (ss.map bl) (bl s) := by rw [hT]
        have hTs : T.size ≤ 9003 := by
          rw [← bl_len, hTb]
          have := filt_len (ss.map bl) (bl s)
          rw [bl_len] at this
          omega
        rw [← hT] at HC1
        have hlt : (ss.take m).length ≤ 100000 := by rw [List.length_take]; omega
        have HC2 := hide (fun w (h : StrArg w (.slice p m cap) (ss.take m)) => filter_any T (.slice p m cap) (ss.take m) (by omega) hlt w h)
        have HC3 := hide (fun w (h : StrArg w (.slice p m cap) (ss.take m)) => filter_any s (.slice p m cap) (ss.take m) (by omega) hlt w h)
        have HC4 := hide (fun w => filter_any s (.slice none 0 0) [] (by omega) (by simp) w (strArg_nil w))
        rw [show filt (List.map bl []) (bl s) = [] from filt_none _] at HC4
        have HC4 : Hid (∀ w, Calls Tryd.prog 10 #[.string s, .slice none 0 0] w fun e w' => e = .returned (.string ⟨#[]⟩) ∧ Below w.heap.size w w') := HC4
        cases hnn : allN ss with
        | false =>
          rw [hnn] at HCN
          clear hnn HC1 HC2 HC3 HC4 hT hTb hTs hlt hm hmN
          generalize ss.length = N at *
          go_enter Tryd.func6, Tryd.ntmps6
          go_wp2_with fail
          refine (ca _).mono ?_
          rintro e w1 ⟨rfl, hb1⟩
          go_wp2_with fail
          refine (HCN.out _ (HV.out.below hb1)).mono ?_
          rintro e w2 ⟨rfl, rfl⟩
          go_wp2_with fail
          go_ret
          exact ⟨rfl, hb1⟩
        | true =>
          rw [hnn] at HCN
          have hnm := allN_names hnn
          have hag : (⟨(filt ((ss.take m).map bl) (bl T)).toArray⟩ : ByteArray) = ⟨(filt ((ss.take m).map bl) (bl s)).toArray⟩ := by
            rw [hTb, filt_fewer hnm (fun x hx => by
              obtain ⟨y, hy, rfl⟩ := List.mem_map.1 hx
              exact List.mem_map_of_mem (List.mem_of_mem_take hy))]
          rw [hag] at HC2
          generalize (⟨(filt ((ss.take m).map bl) (bl s)).toArray⟩ : ByteArray) = U at HC2 HC3
          have q1 : (U.toList == U.toList) = true := beq_same rfl
          have HTK : Hid (∀ wx, Below w.heap.size w wx → StrArg wx (.slice p m cap) (ss.take m)) := hide (fun wx h => strArg_take (HV.out.below h).arg hmN)
          clear hnn hnm hag hT hTb hlt
          generalize ss.length = N at *
          go_enter Tryd.func6, Tryd.ntmps6
          go_wp2_with fail
          refine (ca _).mono ?_
          rintro e w1 ⟨rfl, hb1⟩
          go_wp2_with fail
          refine (HCN.out _ (HV.out.below hb1)).mono ?_
          rintro e w2 ⟨rfl, rfl⟩
          clear ca HCN
          go_wp2_with fail
          refine (HC1.out _ (HV.out.below hb1).arg).mono ?_
          rintro e w3 ⟨rfl, hb3⟩
          have HB3 := hide (bel2 hb1 hb3)
          clear hb1 hb3 HC1
          go_wp2_with fail
          refine (HC2.out _ (HTK.out _ HB3.out)).mono ?_
          rintro e w4 ⟨rfl, hb4⟩
          have HB4 := hide (bel2 HB3.out hb4)
          clear hb4 HC2 HB3
          go_wp2_with fail
          refine (HC3.out _ (HTK.out _ HB4.out)).mono ?_
          rintro e w5 ⟨rfl, hb5⟩
          have HB5 := hide (bel2 HB4.out hb5)
          clear hb5 HC3 HB4
          go_wp2_with fail
          refine (HC4.out _).mono ?_
          rintro e w6 ⟨rfl, hb6⟩
          have HB6 := hide (bel2 HB5.out hb6)
          clear hb6 HC4 HB5
          go_wp2_with fail
          go_ret
          exact ⟨rfl, HB6.out⟩
      · generalize ss.length = N at *
        have hneg : n < 0 := by omega
        go_enter Tryd.func6, Tryd.ntmps6
        go_wp2_with fail
        refine (ca _).mono ?_
        rintro e w1 ⟨rfl, hb1⟩
        go_wp2_with fail
        go_ret
        exact ⟨rfl, hb1⟩
    · generalize ss.length = N at *
      go_enter Tryd.func6, Tryd.ntmps6
      go_wp2_with fail
      refine (ca _).mono ?_
      rintro e w1 ⟨rfl, hb1⟩
      go_wp2_with fail
      go_ret
      exact ⟨rfl, hb1⟩
  · go_enter Tryd.func6, Tryd.ntmps6
    go_wp2_with fail
    refine (ca _).mono ?_
    rintro e w1 ⟨rfl, hb1⟩
    go_wp2_with fail
    go_ret
    exact ⟨rfl, hb1⟩
end Go.Proofs.YtnjbeehfnahdfaaDoor
