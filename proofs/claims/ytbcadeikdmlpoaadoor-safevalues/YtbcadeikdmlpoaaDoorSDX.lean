/-
  The document's own Has.
-/
import Derived.Test.YtbcadeikdmlpoaaDoorPW
import Derived.Test.YtbcadeikdmlpoaaDoorPM
import Derived.Test.YtbcadeikdmlpoaaDoorPC
import Derived.Deep.RegionHeld3
import Derived.Test.YtbcadeikdmlpoaaDoorSPX
import Derived.Test.YtbcadeikdmlpoaaDoorUX
import Derived.Test.YtbcadeikdmlpoaaDoorYZ
import Derived.Test.YtbcadeikdmlpoaaDoorQ10
namespace Go.Proofs.YtbcadeikdmlpoaaDoor
open Go.RowKit
open Utf1 Pol8

set_option maxHeartbeats 4000000 in
theorem rhas_any (v : Value) (ss : List ByteArray) (X : ByteArray) (hl : ss.length ≤ 100000) (w : World) (hv : StrArg w v ss) :
    Calls Tryd.prog 21 #[v, .string X] w fun e w' => e = .returned (.bool (decide (bl X ∈ ss.map bl))) ∧ w' = w := by
  obtain ⟨R, hR⟩ : ∃ R, R = decide (bl X ∈ ss.map bl) := ⟨_, rfl⟩
  rw [← hR]
  have HAL := hide hR
  clear hR
  obtain ⟨p, cap, rfl, -, hc⟩ := hv
  have HC := hide hc
  obtain ⟨N, hN⟩ : ∃ N, N = ss.length := ⟨_, rfl⟩
  rw [← hN] at hl ⊢
  have HN := hide hN
  clear hc hN
  go_enter Tryd.func21, Tryd.ntmps21
  go_wp2_with fail
  go_loopg [5] N (fun g v wx => wx = w ∧ ∃ i : Nat, i + g = N ∧ v = .int .i64 (i : Int) ∧ Hid (bl X ∉ (ss.take i).map bl))
  case atStart => exact ⟨rfl, 0, by omega, rfl, hide (by simp)⟩
  case round =>
    obtain ⟨rfl, i, hi, rfl, HU⟩ := hrel
    by_cases hlt : i < N
    · obtain ⟨y, hge⟩ : ∃ y, ss[i]? = some y := ⟨_, List.getElem?_eq_getElem (by rw [← HN.out]; exact hlt)⟩
      obtain ⟨b, off, rfl, c0⟩ := HC.out i y hge
      have q0 := eq_two y X
      have HMS := hide (mem_step (X := X) hge)
      have HMM : Hid (bl y ∈ ss.map bl) := hide (List.mem_map_of_mem (List.mem_of_getElem? hge))
      clear hge
      by_cases hy : bl y = bl X
      · rw [decide_eq_true hy] at q0
        have HR : Hid (R = true) := hide (by
          rw [HAL.out]
          apply decide_eq_true
          rw [← hy]
          exact HMM.out)
        clear hy HU HMS
        go_wp2_with fail
        go_ret
        rw [HR.out]
        exact ⟨rfl, rfl⟩
      · rw [decide_eq_false hy] at q0
        have HU2 : Hid (bl X ∉ (ss.take (i + 1)).map bl) := hide (fun h => (HMS.out.1 h).elim HU.out hy)
        clear hy HU HMS
        go_wp2_with fail
        go_roundg (gk - 1)
        case measure => omega
        case rel => exact ⟨rfl, i + 1, by omega, by first | rfl | simp, HU2⟩
    · have HR : Hid (R = false) := hide (by
        rw [HAL.out]
        apply decide_eq_false
        have := HU.out
        rw [List.take_of_length_le (by rw [← HN.out]; omega)] at this
        exact this)
      clear HU
      go_wp2_with fail
      go_ret
      rw [HR.out]
      exact ⟨rfl, rfl⟩

end Go.Proofs.YtbcadeikdmlpoaaDoor

namespace Go.Proofs.YtbcadeikdmlpoaaDoor
open Go.RowKit
open Utf1 Pol8

set_option maxHeartbeats 8000000 in
theorem rattrB_any (v1 v2 v3 v4 v5 : Value) (p : Pol) (l1 l2 l3 l4 l5 : List ByteArray) (e a : ByteArray) (w : World) (hv : PolV w v1 v2 v3 v4 v5 p l1 l2 l3 l4 l5) (hf : fits p) (he : e.size ≤ 100000) (ha : a.size ≤ 100000) :
    Calls Tryd.prog 23 #[.agg #[.int .i64 p.ep, v1, v2, v3, v4, v5, .int .i64 p.dp, .int .i64 p.nd, .int .i64 p.bt], .string e, .string a] w fun r w' => r = .returned (.bool (attrB p (bl e) (bl a))) ∧ Below w.heap.size w w' := by
  obtain ⟨f1, -⟩ := fits_of hf (by simp) hv.e1
  obtain ⟨f2, -⟩ := fits_of hf (by simp) hv.e2
  have HRE : Hid (attrB p (bl e) (bl a) = (decide (bl e ∈ l1.map bl) && (decide (bl (⟨#[42, 46]⟩ ++ a) ∈ l2.map bl) || decide (bl (e ++ ⟨#[46]⟩ ++ a) ∈ l2.map bl)))) := hide (by
    have e1 : bl (⟨#[42, 46]⟩ ++ a) = 42 :: 46 :: bl a := by rw [app_bl]; rfl
    have e2 : bl (e ++ ⟨#[46]⟩ ++ a) = bl e ++ 46 :: bl a := by
      rw [app_bl, app_bl]
      show bl e ++ [46] ++ bl a = _
      simp
    rw [e1, e2, hv.e1, hv.e2]
    unfold attrB
    by_cases h1 : (42 :: 46 :: bl a) ∈ p.at_ <;> by_cases h2 : (bl e ++ 46 :: bl a) ∈ p.at_ <;> simp only [h1, h2] <;> simp)
  rw [HRE.out]
  obtain ⟨A, hA⟩ : ∃ A : Array Value, A = #[.int .i64 p.ep, v1, v2, v3, v4, v5, .int .i64 p.dp, .int .i64 p.nd, .int .i64 p.bt] := ⟨_, rfl⟩
  obtain ⟨w1, hw1⟩ : ∃ w1, w1 = w.alloc (.cells A 24) := ⟨_, rfl⟩
  have HNEW : Hid (BoxP w A w1) := hide (by rw [hw1]; exact ⟨new_block _ _ _, bel_alloc (Below.refl _ _) _⟩)
  have y1 := HNEW.out.cell 1 v1 (by rw [hA]; rfl)
  have y2 := HNEW.out.cell 2 v2 (by rw [hA]; rfl)
  have C1 := hide (rhas_any v1 l1 e (by omega) w1 (hv.s1.below HNEW.out.2))
  have C2 := hide (rhas_any v2 l2 (⟨#[42, 46]⟩ ++ a) (by omega) w1 (hv.s2.below HNEW.out.2))
  have C3 := hide (rhas_any v2 l2 (e ++ ⟨#[46]⟩ ++ a) (by omega) w1 (hv.s2.below HNEW.out.2))
  generalize decide (bl e ∈ l1.map bl) = d1 at C1
  generalize decide (bl (⟨#[42, 46]⟩ ++ a) ∈ l2.map bl) = d2 at C2
  generalize decide (bl (e ++ ⟨#[46]⟩ ++ a) ∈ l2.map bl) = d3 at C3
  rw [hA] at hw1
  clear HRE hv hf hA f1 f2
  cases d1 with
  | false =>
    go_enter Tryd.func23, Tryd.ntmps23
    go_upto_region 1 with fail
    rw [← hw1]
    clear hw1
    go_wp2_with fail
    refine C1.out.mono ?_
    rintro r w2 ⟨rfl, rfl⟩
    go_wp2_with fail
    go_ret
    exact ⟨rfl, HNEW.out.2⟩
  | true =>
    cases d2 with
    | true =>
      go_enter Tryd.func23, Tryd.ntmps23
      go_upto_region 1 with fail
      rw [← hw1]
      clear hw1
      go_wp2_with fail
      refine C1.out.mono ?_
      rintro r w2 ⟨rfl, rfl⟩
      go_wp2_with fail
      refine C2.out.mono ?_
      rintro r w2 ⟨rfl, rfl⟩
      go_wp2_with fail
      go_ret
      exact ⟨rfl, HNEW.out.2⟩
    | false =>
      go_enter Tryd.func23, Tryd.ntmps23
      go_upto_region 1 with fail
      rw [← hw1]
      clear hw1
      go_wp2_with fail
      refine C1.out.mono ?_
      rintro r w2 ⟨rfl, rfl⟩
      go_wp2_with fail
      refine C2.out.mono ?_
      rintro r w2 ⟨rfl, rfl⟩
      go_wp2_with fail
      refine C3.out.mono ?_
      rintro r w2 ⟨rfl, rfl⟩
      go_wp2_with fail
      go_ret
      exact ⟨rfl, HNEW.out.2⟩
end Go.Proofs.YtbcadeikdmlpoaaDoor

namespace Go.Proofs.YtbcadeikdmlpoaaDoor
open Go.RowKit
open Utf1 Pol8

abbrev placeS : List ByteArray := [⟨#[104, 114, 101, 102]⟩, ⟨#[115, 114, 99]⟩, ⟨#[99, 105, 116, 101]⟩, ⟨#[97, 99, 116, 105, 111, 110]⟩, ⟨#[98, 97, 99, 107, 103, 114, 111, 117, 110, 100]⟩, ⟨#[108, 111, 110, 103, 100, 101, 115, 99]⟩, ⟨#[112, 105, 110, 103]⟩, ⟨#[112, 111, 115, 116, 101, 114]⟩, ⟨#[115, 114, 99, 115, 101, 116]⟩, ⟨#[117, 115, 101, 109, 97, 112]⟩]
theorem placeS_bl : placeS.map bl = Saf.placeL := rfl
set_option maxRecDepth 100000 in
set_option maxHeartbeats 8000000 in
theorem rplace_any (n : ByteArray) (w : World) :
    Calls Tryd.prog 12 #[.string n] w fun e w' => e = .returned (.bool (Saf.placeB (bl n))) ∧ Below w.heap.size w w' := by
  obtain ⟨w1, hw1⟩ : ∃ w1, w1 = w.alloc (.cells (strV placeS).toArray 9) := ⟨_, rfl⟩
  have HS : Hid (StrArg w1 (.slice (some ⟨w.heap.size, 0, none⟩) 10 10) placeS) := hide (by rw [hw1]; exact strArg_row w placeS 9)
  have HB : Hid (Below w.heap.size w w1) := hide (by rw [hw1]; exact bel_alloc (Below.refl _ _) _)
  have C1 := hide (rhas_any (.slice (some ⟨w.heap.size, 0, none⟩) 10 10) placeS n (by decide) w1 HS.out)
  rw [placeS_bl] at C1
  have HR : Hid (Saf.placeB (bl n) = decide (bl n ∈ Saf.placeL)) := hide rfl
  generalize decide (bl n ∈ Saf.placeL) = r at C1 HR
  rw [HR.out]
  rw [show (strV placeS).toArray = #[.string ⟨#[104, 114, 101, 102]⟩, .string ⟨#[115, 114, 99]⟩, .string ⟨#[99, 105, 116, 101]⟩, .string ⟨#[97, 99, 116, 105, 111, 110]⟩, .string ⟨#[98, 97, 99, 107, 103, 114, 111, 117, 110, 100]⟩, .string ⟨#[108, 111, 110, 103, 100, 101, 115, 99]⟩, .string ⟨#[112, 105, 110, 103]⟩, .string ⟨#[112, 111, 115, 116, 101, 114]⟩, .string ⟨#[115, 114, 99, 115, 101, 116]⟩, .string ⟨#[117, 115, 101, 109, 97, 112]⟩] from rfl] at hw1
  clear HS HR
  go_enter Tryd.func12, Tryd.ntmps12
  go_wp2_with fail
  rw [← hw1]
  clear hw1
  refine C1.out.mono ?_
  rintro e w2 ⟨rfl, rfl⟩
  clear C1
  go_wp2_with fail
  go_ret
  exact ⟨rfl, HB.out⟩

/-- What is held while a value's parts are gone through. -/
structure ClsI (R : Bool) (cl : List L) (V : L) (ls : List ByteArray) (f i : Nat) : Prop where
  le : f ≤ i
  up : i ≤ V.length + 1
  n : ls.length ≤ i
  on : i ≤ V.length → R = Saf.clsFrom cl (ls.map bl) (Pol8.segs 32 (V.drop f)) ∧ ∀ j c, f ≤ j → j < i → V[j]? = some c → c ≠ 32
  off : V.length < i → R = true
theorem seg_no {V : L} {f i : Nat} (h : ∀ j c, f ≤ j → j < i → V[j]? = some c → c ≠ 32) : (32 : UInt8) ∉ (V.drop f).take (i - f) := by
  intro hm
  obtain ⟨k, hk⟩ := List.getElem?_of_mem hm
  rw [List.getElem?_take] at hk
  split at hk
  · rename_i hlt
    rw [List.getElem?_drop] at hk
    exact h (f + k) 32 (by omega) (by omega) hk rfl
  · cases hk
theorem cls_more {R : Bool} {cl : List L} {V : L} {ls : List ByteArray} {f i : Nat} (h : ClsI R cl V ls f i) {c : UInt8} (hc : V[i]? = some c) (h32 : c ≠ 32) : ClsI R cl V ls f (i + 1) := by
  have hl := (List.getElem?_eq_some_iff.1 hc).1
  obtain ⟨h1, h2⟩ := h.on (by omega)
  have hle := h.le
  have hn := h.n
  refine ⟨by omega, by omega, by omega, fun _ => ⟨h1, fun j d hj hji hd => ?_⟩, fun e => by omega⟩
  by_cases e : j = i
  · subst e
    rw [hc] at hd
    cases hd
    exact h32
  · exact h2 j d hj (by omega) hd
theorem cls_part {R : Bool} {cl : List L} {V : L} {ls : List ByteArray} {f i : Nat} (h : ClsI R cl V ls f i) (hi : i ≤ V.length) (hend : i = V.length ∨ V[i]? = some 32) {C : ByteArray} (hC : bl C = (V.drop f).take (i - f)) :
    ((bl C ∈ cl ∧ bl C ∉ ls.map bl) → ClsI R cl V (ls ++ [C]) (i + 1) (i + 1)) ∧ (¬ (bl C ∈ cl ∧ bl C ∉ ls.map bl) → R = false) := by
  obtain ⟨h1, h2⟩ := h.on hi
  have hno := seg_no h2
  have hle := h.le
  have hn := h.n
  rw [← hC] at hno
  have hsp : V.drop f = bl C ++ V.drop i := by
    rw [hC, show V.drop i = (V.drop f).drop (i - f) by rw [List.drop_drop, show f + (i - f) = i by omega], List.take_append_drop]
  have key : Pol8.segs 32 (V.drop f) = bl C :: (if i = V.length then [] else Pol8.segs 32 (V.drop (i + 1))) := by
    by_cases e : i = V.length
    · rw [if_pos e, hsp, List.drop_eq_nil_of_le (by omega), List.append_nil]
      exact Pol8.segs_end 32 _ hno
    · rw [if_neg e]
      have hV : V[i]? = some 32 := hend.resolve_left e
      have hil := (List.getElem?_eq_some_iff.1 hV).1
      rw [hsp, List.drop_eq_getElem_cons hil, (List.getElem?_eq_some_iff.1 hV).2]
      exact Pol8.segs_semi 32 _ _ hno
  rw [key, Saf.clsFrom] at h1
  constructor
  · rintro ⟨a, b⟩
    rw [decide_eq_true a, decide_eq_false b, Bool.not_false, Bool.and_true, Bool.true_and] at h1
    refine ⟨Nat.le_refl _, by omega, by rw [List.length_append]; simp; omega, fun hi' => ?_, fun hi' => ?_⟩
    · rw [if_neg (by omega)] at h1
      exact ⟨by rw [h1, List.map_append]; rfl, fun j c hj hji => by omega⟩
    · rw [if_pos (by omega)] at h1
      rw [h1, Saf.clsFrom]
  · intro hne
    rw [h1]
    by_cases a : bl C ∈ cl
    · have b : bl C ∈ ls.map bl := by
        by_cases b : bl C ∈ ls.map bl
        · exact b
        · exact absurd ⟨a, b⟩ hne
      rw [decide_eq_true b]
      simp
    · rw [decide_eq_false a]
      rfl

set_option maxRecDepth 100000 in
set_option maxHeartbeats 8000000 in
theorem rclasses_any (s : ByteArray) (v : Value) (cs : List ByteArray) (hs : s.size ≤ 90000) (hl : cs.length ≤ 100000) (w : World) (hv : StrArg w v cs) :
    Calls Tryd.prog 24 #[.string s, v] w fun e w' => e = .returned (.bool (Saf.classesB (cs.map bl) (bl s))) ∧ Below w.heap.size w w' := by
  obtain ⟨i0, hi, hz0, hz1, hz2⟩ := info_parts infoStr
  obtain ⟨R, hR⟩ : ∃ R, R = Saf.classesB (cs.map bl) (bl s) := ⟨_, rfl⟩
  rw [← hR]
  have H0 : Hid (ClsI R (cs.map bl) (bl s) [] 0 0) := hide ⟨Nat.le_refl _, by omega, Nat.zero_le _, fun _ => ⟨hR, fun j c _ h => by omega⟩, fun h => by omega⟩
  have HV := hide hv
  have CH : Hid (∀ (X : ByteArray) wx, Below w.heap.size w wx → Calls Tryd.prog 21 #[v, .string X] wx fun e w' => e = .returned (.bool (decide (bl X ∈ cs.map bl))) ∧ w' = wx) := hide (fun X wx h => rhas_any v cs X hl wx (hv.below h))
  obtain ⟨p0, cap0, rfl, -, -⟩ := hv
  clear hR
  go_enter Tryd.func24, Tryd.ntmps24
  go_wp2_with fail
  go_loopg [5, 6, 7] (s.size + 1) (fun g v5 v6 v7 wx => ∃ (f i m c : Nat) (q : Option Addr) (ls : List ByteArray), i + g = s.size + 1 ∧ f ≤ i ∧ v5 = .slice q m c ∧ v6 = .int .i64 (f : Int) ∧ v7 = .int .i64 (i : Int) ∧ m ≤ i ∧ Hid (m = ls.length ∧ wx.ownsRow w.heap.size 9 1 (.slice q m c) m (strV ls) ∧ Below w.heap.size w wx ∧ ClsI R (cs.map bl) (bl s) ls f i))
  case atStart => exact ⟨0, 0, 0, 0, none, [], by omega, by omega, rfl, rfl, rfl, by omega, hide ⟨rfl, ⟨rfl, .inl ⟨rfl, rfl⟩⟩, Below.refl _ _, H0.out⟩⟩
  case round =>
    obtain ⟨f, i, m, c, q, ls, hig, hfi, rfl, rfl, rfl, hmi, HU⟩ := hrel
    clear H0
    have hlen : (bl s).length = s.size := bl_len s
    by_cases hle : i ≤ s.size
    · by_cases hcont : ∃ d, (bl s)[i]? = some d ∧ d ≠ 32
      · obtain ⟨d, hd, hd32⟩ := hcont
        have hlt : i < s.size := by have := (List.getElem?_eq_some_iff.1 hd).1; omega
        have hx := idxK hd wr
        have hn32 : ((d.toNat : Int) != 32) = true := by
          have := neqK d 32 (by decide)
          rw [decide_eq_true (show d ≠ UInt8.ofNat 32 from hd32)] at this
          exact this
        have HU2 := hide (cls_more HU.out.2.2.2 hd hd32)
        generalize (d.toNat : Int) = dz at hx hn32
        clear hd hd32 hlen
        go_wp2_with fail
        go_roundg (s.size + 1 - i - 1)
        case measure => omega
        case rel => exact ⟨f, i + 1, m, c, q, ls, by omega, by omega, rfl, rfl, by first | rfl | simp, by omega, hide ⟨HU.out.1, HU.out.2.1, HU.out.2.2.1, HU2.out⟩⟩
      · have hend : i = s.size ∨ (bl s)[i]? = some 32 := by
          by_cases e : i = s.size
          · exact .inl e
          · obtain ⟨d, hd⟩ := getK s i (by omega)
            by_cases h : d = 32
            · exact .inr (by rw [hd, h])
            · exact absurd ⟨d, hd, h⟩ hcont
        obtain ⟨C, hC⟩ : ∃ C, C = s.extract f i := ⟨_, rfl⟩
        have hCb : bl C = ((bl s).drop f).take (i - f) := by rw [hC, extract_bl]
        obtain ⟨hy, hn⟩ := cls_part HU.out.2.2.2 (by rw [hlen]; exact hle) (by rw [hlen]; exact hend) hCb
        have C1 := hide (CH.out C wr HU.out.2.2.1)
        have C2 := hide (rhas_any (.slice q m c) ls C (by have := HU.out.1; omega) wr (by
          have h := HU.out.2.1
          rw [HU.out.1] at h ⊢
          exact own_arg h))
        have b0 : (0 : Int) ≤ (f : Int) := by omega
        have b1 : (f : Int) ≤ (i : Int) := by omega
        have b2 : (i : Int) ≤ (s.size : Int) := by omega
        clear hcont hCb hlen
        rcases hend with e | e
        focus
          have hlt : ¬ i < s.size := by omega
          clear e
          go_upto_region 8 with fail
          rw [← hC]
          clear hC
          go_wp2_with fail
          refine C1.out.mono ?_
          rintro e wx ⟨rfl, hwx⟩
          rw [hwx]
          clear hwx
          clear C1
          cases hm1 : decide (bl C ∈ cs.map bl) with
          | false =>
            have HR : Hid (R = false) := hide (hn (fun h => by rw [decide_eq_true h.1] at hm1; cases hm1))
            have HB := hide HU.out.2.2.1
            clear hy hn HU C2 hm1
            go_wp2_with fail
            go_ret
            rw [HR.out]
            exact ⟨rfl, HB.out⟩
          | true =>
            have hm1 := of_decide_eq_true hm1
            go_wp2_with fail
            refine C2.out.mono ?_
            rintro e wx ⟨rfl, hwx⟩
            rw [hwx]
            clear hwx
            clear C2
            cases hm2 : decide (bl C ∈ ls.map bl) with
            | true =>
              have HR : Hid (R = false) := hide (hn (fun h => h.2 (of_decide_eq_true hm2)))
              have HB := hide HU.out.2.2.1
              clear hy hn HU hm1 hm2
              go_wp2_with fail
              go_ret
              rw [HR.out]
              exact ⟨rfl, HB.out⟩
            | false =>
              have HN2 := hide (hy ⟨hm1, of_decide_eq_false hm2⟩)
              clear hy hn hm1 hm2
              have HOW : Hid ((wr.alloc (.cells #[.string C] 9)).ownsRow w.heap.size 9 1 (.slice q m c) m (strV ls)) := hide (HU.out.2.1.alloc _)
              have HSZ : Hid (w.heap.size ≤ (wr.alloc (.cells #[.string C] 9)).heap.size) := hide (by have := HU.out.2.2.1.size; simp; omega)
              go_wp2_with (at_builtin; refine wpList_append_own _ rfl _ _ 22 rfl w.heap.size 9 i0 _ 1 16 Tryd.underlying22 hi hz0 hz1 hz2 rfl (by decide) (.slice q m c) m (strV ls) rfl HOW.out ⟨wr.heap.size, 0, none⟩ 1 1 [.string C] rfl rfl (one_new _ _ _) (by simp [Value.oneCell']) (by unfold maxLen; omega) (by omega) HSZ.out ?_)
              intro u' w3 hown3 hg3 _
              obtain ⟨p', c', rfl, -⟩ := own_shape hown3
              have HR3 : Hid (m + 1 = (ls ++ [C]).length ∧ w3.ownsRow w.heap.size 9 1 (.slice p' (m + 1) c') (m + 1) (strV (ls ++ [C])) ∧ Below w.heap.size w w3) := hide ⟨by rw [List.length_append, ← HU.out.1]; rfl, by rw [strV_app]; exact hown3, (HU.out.2.2.1.alloc HU.out.2.2.1.size _).grown hg3 (by have := HU.out.2.2.1.size; simp; omega) (fun kk hk => (own_block HU.out.2.1 hk).1)⟩
              clear hown3 hg3 HOW HSZ HU
              go_wp2_with fail
              go_roundg (s.size + 1 - i - 1)
              case measure => omega
              case rel => exact ⟨i + 1, i + 1, m + 1, c', p', ls ++ [C], by omega, by omega, rfl, by first | rfl | simp, by first | rfl | simp, by omega, hide ⟨HR3.out.1, HR3.out.2.1, HR3.out.2.2, HN2.out⟩⟩
        focus
          have hlt : i < s.size := by have := (List.getElem?_eq_some_iff.1 e).1; rw [bl_len] at this; exact this
          have hx := idxK e wr
          clear e
          go_upto_region 8 with fail
          rw [← hC]
          clear hC hx
          go_wp2_with fail
          refine C1.out.mono ?_
          rintro e wx ⟨rfl, hwx⟩
          rw [hwx]
          clear hwx
          clear C1
          cases hm1 : decide (bl C ∈ cs.map bl) with
          | false =>
            have HR : Hid (R = false) := hide (hn (fun h => by rw [decide_eq_true h.1] at hm1; cases hm1))
            have HB := hide HU.out.2.2.1
            clear hy hn HU C2 hm1
            go_wp2_with fail
            go_ret
            rw [HR.out]
            exact ⟨rfl, HB.out⟩
          | true =>
            have hm1 := of_decide_eq_true hm1
            go_wp2_with fail
            refine C2.out.mono ?_
            rintro e wx ⟨rfl, hwx⟩
            rw [hwx]
            clear hwx
            clear C2
            cases hm2 : decide (bl C ∈ ls.map bl) with
            | true =>
              have HR : Hid (R = false) := hide (hn (fun h => h.2 (of_decide_eq_true hm2)))
              have HB := hide HU.out.2.2.1
              clear hy hn HU hm1 hm2
              go_wp2_with fail
              go_ret
              rw [HR.out]
              exact ⟨rfl, HB.out⟩
            | false =>
              have HN2 := hide (hy ⟨hm1, of_decide_eq_false hm2⟩)
              clear hy hn hm1 hm2
              have HOW : Hid ((wr.alloc (.cells #[.string C] 9)).ownsRow w.heap.size 9 1 (.slice q m c) m (strV ls)) := hide (HU.out.2.1.alloc _)
              have HSZ : Hid (w.heap.size ≤ (wr.alloc (.cells #[.string C] 9)).heap.size) := hide (by have := HU.out.2.2.1.size; simp; omega)
              go_wp2_with (at_builtin; refine wpList_append_own _ rfl _ _ 22 rfl w.heap.size 9 i0 _ 1 16 Tryd.underlying22 hi hz0 hz1 hz2 rfl (by decide) (.slice q m c) m (strV ls) rfl HOW.out ⟨wr.heap.size, 0, none⟩ 1 1 [.string C] rfl rfl (one_new _ _ _) (by simp [Value.oneCell']) (by unfold maxLen; omega) (by omega) HSZ.out ?_)
              intro u' w3 hown3 hg3 _
              obtain ⟨p', c', rfl, -⟩ := own_shape hown3
              have HR3 : Hid (m + 1 = (ls ++ [C]).length ∧ w3.ownsRow w.heap.size 9 1 (.slice p' (m + 1) c') (m + 1) (strV (ls ++ [C])) ∧ Below w.heap.size w w3) := hide ⟨by rw [List.length_append, ← HU.out.1]; rfl, by rw [strV_app]; exact hown3, (HU.out.2.2.1.alloc HU.out.2.2.1.size _).grown hg3 (by have := HU.out.2.2.1.size; simp; omega) (fun kk hk => (own_block HU.out.2.1 hk).1)⟩
              clear hown3 hg3 HOW HSZ HU
              go_wp2_with fail
              go_roundg (s.size + 1 - i - 1)
              case measure => omega
              case rel => exact ⟨i + 1, i + 1, m + 1, c', p', ls ++ [C], by omega, by omega, rfl, by first | rfl | simp, by first | rfl | simp, by omega, hide ⟨HR3.out.1, HR3.out.2.1, HR3.out.2.2, HN2.out⟩⟩
    · have HR : Hid (R = true) := hide (HU.out.2.2.2.off (by omega))
      have HB := hide HU.out.2.2.1
      clear HU hlen
      go_wp2_with fail
      go_ret
      rw [HR.out]
      exact ⟨rfl, HB.out⟩
end Go.Proofs.YtbcadeikdmlpoaaDoor

namespace Go.Proofs.YtbcadeikdmlpoaaDoor
open Go.RowKit
open Utf1 Pol8

set_option maxRecDepth 100000 in
set_option maxHeartbeats 16000000 in
theorem rvalue_any (v1 v2 v3 v4 v5 : Value) (p : Pol) (l1 l2 l3 l4 l5 : List ByteArray) (e n v : ByteArray) (w : World) (hv : PolV w v1 v2 v3 v4 v5 p l1 l2 l3 l4 l5) (hf : fits p) (he : e.size ≤ 100000) (hn : n.size ≤ 100000) (hz : v.size ≤ 90000) :
    Calls Tryd.prog 10 #[pval p v1 v2 v3 v4 v5, .string e, .agg #[.string n, .string v]] w fun r w' => r = .returned (.bool (Saf.valueB p (bl e) (bl n) (bl v))) ∧ Below w.heap.size w w' := by
  obtain ⟨R, hR⟩ : ∃ R, R = Saf.valueB p (bl e) (bl n) (bl v) := ⟨_, rfl⟩
  rw [← hR]
  unfold Saf.valueB at hR
  have HR := hide hR
  clear hR
  obtain ⟨f1, -⟩ := fits_of hf (by simp) hv.e1
  obtain ⟨f3, -⟩ := fits_of hf (by simp) hv.e3
  obtain ⟨f4, -⟩ := fits_of hf (by simp) hv.e4
  obtain ⟨f5, -⟩ := fits_of hf (by simp) hv.e5
  have HV := hide hv
  obtain ⟨o1, k1, rfl, -, -⟩ := hv.s1
  obtain ⟨o2, k2, rfl, -, -⟩ := hv.s2
  obtain ⟨o3, k3, rfl, -, -⟩ := hv.s3
  obtain ⟨o4, k4, rfl, -, -⟩ := hv.s4
  obtain ⟨o5, k5, rfl, -, -⟩ := hv.s5
  clear hv
  obtain ⟨w1, hw1⟩ : ∃ w1, w1 = (w.alloc (.cells #[.int .i64 p.ep, .slice o1 (List.length l1) k1, .slice o2 (List.length l2) k2, .slice o3 (List.length l3) k3, .slice o4 (List.length l4) k4, .slice o5 (List.length l5) k5, .int .i64 p.dp, .int .i64 p.nd, .int .i64 p.bt] 24)).alloc (.cells #[.string n, .string v] 26) := ⟨_, rfl⟩
  have H1 : Hid (BoxV w #[.int .i64 p.ep, .slice o1 (List.length l1) k1, .slice o2 (List.length l2) k2, .slice o3 (List.length l3) k3, .slice o4 (List.length l4) k4, .slice o5 (List.length l5) k5, .int .i64 p.dp, .int .i64 p.nd, .int .i64 p.bt] #[.string n, .string v] w1) := hide (by rw [hw1]; exact BoxV.new _ _ _)
  have SK : Hid (∀ wx, BoxV w #[.int .i64 p.ep, .slice o1 (List.length l1) k1, .slice o2 (List.length l2) k2, .slice o3 (List.length l3) k3, .slice o4 (List.length l4) k4, .slice o5 (List.length l5) k5, .int .i64 p.dp, .int .i64 p.nd, .int .i64 p.bt] #[.string n, .string v] wx → wx.cell? ⟨w.heap.size, 0, none⟩ = some (.int .i64 p.ep) ∧ wx.cell? ⟨w.heap.size, 1, none⟩ = some (.slice o1 (List.length l1) k1) ∧ wx.cell? ⟨w.heap.size, 2, none⟩ = some (.slice o2 (List.length l2) k2) ∧ wx.cell? ⟨w.heap.size, 3, none⟩ = some (.slice o3 (List.length l3) k3) ∧ wx.cell? ⟨w.heap.size, 4, none⟩ = some (.slice o4 (List.length l4) k4) ∧ wx.cell? ⟨w.heap.size, 5, none⟩ = some (.slice o5 (List.length l5) k5) ∧ wx.cell? ⟨w.heap.size, 6, none⟩ = some (.int .i64 p.dp) ∧ wx.cell? ⟨w.heap.size, 7, none⟩ = some (.int .i64 p.nd) ∧ wx.cell? ⟨w.heap.size, 8, none⟩ = some (.int .i64 p.bt) ∧ wx.cell? ⟨w.heap.size + 1, 0, none⟩ = some (.string n) ∧ wx.cell? ⟨w.heap.size + 1, 1, none⟩ = some (.string v) ∧ Hid (BoxV w #[.int .i64 p.ep, .slice o1 (List.length l1) k1, .slice o2 (List.length l2) k2, .slice o3 (List.length l3) k3, .slice o4 (List.length l4) k4, .slice o5 (List.length l5) k5, .int .i64 p.dp, .int .i64 p.nd, .int .i64 p.bt] #[.string n, .string v] wx)) := hide (fun wx h => ⟨h.a 0 _ rfl, h.a 1 _ rfl, h.a 2 _ rfl, h.a 3 _ rfl, h.a 4 _ rfl, h.a 5 _ rfl, h.a 6 _ rfl, h.a 7 _ rfl, h.a 8 _ rfl, h.b 0 _ rfl, h.b 1 _ rfl, hide h⟩)
  have SB : Hid (∀ wx, (wx.cell? ⟨w.heap.size, 0, none⟩ = some (.int .i64 p.ep) ∧ wx.cell? ⟨w.heap.size, 1, none⟩ = some (.slice o1 (List.length l1) k1) ∧ wx.cell? ⟨w.heap.size, 2, none⟩ = some (.slice o2 (List.length l2) k2) ∧ wx.cell? ⟨w.heap.size, 3, none⟩ = some (.slice o3 (List.length l3) k3) ∧ wx.cell? ⟨w.heap.size, 4, none⟩ = some (.slice o4 (List.length l4) k4) ∧ wx.cell? ⟨w.heap.size, 5, none⟩ = some (.slice o5 (List.length l5) k5) ∧ wx.cell? ⟨w.heap.size, 6, none⟩ = some (.int .i64 p.dp) ∧ wx.cell? ⟨w.heap.size, 7, none⟩ = some (.int .i64 p.nd) ∧ wx.cell? ⟨w.heap.size, 8, none⟩ = some (.int .i64 p.bt) ∧ wx.cell? ⟨w.heap.size + 1, 0, none⟩ = some (.string n) ∧ wx.cell? ⟨w.heap.size + 1, 1, none⟩ = some (.string v) ∧ Hid (BoxV w #[.int .i64 p.ep, .slice o1 (List.length l1) k1, .slice o2 (List.length l2) k2, .slice o3 (List.length l3) k3, .slice o4 (List.length l4) k4, .slice o5 (List.length l5) k5, .int .i64 p.dp, .int .i64 p.nd, .int .i64 p.bt] #[.string n, .string v] wx)) → BoxV w #[.int .i64 p.ep, .slice o1 (List.length l1) k1, .slice o2 (List.length l2) k2, .slice o3 (List.length l3) k3, .slice o4 (List.length l4) k4, .slice o5 (List.length l5) k5, .int .i64 p.dp, .int .i64 p.nd, .int .i64 p.bt] #[.string n, .string v] wx) := hide (fun wx h => h.2.2.2.2.2.2.2.2.2.2.2.out)
  have C1 : Hid (∀ wx, BoxV w #[.int .i64 p.ep, .slice o1 (List.length l1) k1, .slice o2 (List.length l2) k2, .slice o3 (List.length l3) k3, .slice o4 (List.length l4) k4, .slice o5 (List.length l5) k5, .int .i64 p.dp, .int .i64 p.nd, .int .i64 p.bt] #[.string n, .string v] wx → Calls Tryd.prog 21 #[.slice o1 l1.length k1, .string e] wx fun r w' => r = .returned (.bool (decide (bl e ∈ p.el))) ∧ w' = wx) := hide (fun wx h => by
    have := rhas_any (.slice o1 l1.length k1) l1 e f1 wx ((HV.out.below h.2.2).s1)
    rw [HV.out.e1] at this
    exact this)
  have C2 : Hid (∀ wx, BoxV w #[.int .i64 p.ep, .slice o1 (List.length l1) k1, .slice o2 (List.length l2) k2, .slice o3 (List.length l3) k3, .slice o4 (List.length l4) k4, .slice o5 (List.length l5) k5, .int .i64 p.dp, .int .i64 p.nd, .int .i64 p.bt] #[.string n, .string v] wx → Calls Tryd.prog 22 #[.string v, .slice o5 l5.length k5] wx fun r w' => r = .returned (.string ⟨(Sty.filt p.pr (bl v)).toArray⟩) ∧ BoxV w #[.int .i64 p.ep, .slice o1 (List.length l1) k1, .slice o2 (List.length l2) k2, .slice o3 (List.length l3) k3, .slice o4 (List.length l4) k4, .slice o5 (List.length l5) k5, .int .i64 p.dp, .int .i64 p.nd, .int .i64 p.bt] #[.string n, .string v] w') := hide (fun wx h => by
    have := Sy.rfilter_any v (.slice o5 l5.length k5) l5 hz f5 wx ((HV.out.below h.2.2).s5)
    rw [HV.out.e5] at this
    exact this.mono fun _ w' ⟨h1, h2⟩ => ⟨h1, h.keep h2⟩)
  have C3 : Hid (∀ wx, BoxV w #[.int .i64 p.ep, .slice o1 (List.length l1) k1, .slice o2 (List.length l2) k2, .slice o3 (List.length l3) k3, .slice o4 (List.length l4) k4, .slice o5 (List.length l5) k5, .int .i64 p.dp, .int .i64 p.nd, .int .i64 p.bt] #[.string n, .string v] wx → Calls Tryd.prog 23 #[.agg #[.int .i64 p.ep, .slice o1 (List.length l1) k1, .slice o2 (List.length l2) k2, .slice o3 (List.length l3) k3, .slice o4 (List.length l4) k4, .slice o5 (List.length l5) k5, .int .i64 p.dp, .int .i64 p.nd, .int .i64 p.bt], .string e, .string n] wx fun r w' => r = .returned (.bool (attrB p (bl e) (bl n))) ∧ BoxV w #[.int .i64 p.ep, .slice o1 (List.length l1) k1, .slice o2 (List.length l2) k2, .slice o3 (List.length l3) k3, .slice o4 (List.length l4) k4, .slice o5 (List.length l5) k5, .int .i64 p.dp, .int .i64 p.nd, .int .i64 p.bt] #[.string n, .string v] w') := hide (fun wx h => (rattrB_any _ _ _ _ _ p _ _ _ _ _ e n wx (HV.out.below h.2.2) hf he hn).mono fun _ w' ⟨h1, h2⟩ => ⟨h1, h.keep h2⟩)
  have C4 : Hid (∀ wx, BoxV w #[.int .i64 p.ep, .slice o1 (List.length l1) k1, .slice o2 (List.length l2) k2, .slice o3 (List.length l3) k3, .slice o4 (List.length l4) k4, .slice o5 (List.length l5) k5, .int .i64 p.dp, .int .i64 p.nd, .int .i64 p.bt] #[.string n, .string v] wx → Calls Tryd.prog 24 #[.string v, .slice o4 l4.length k4] wx fun r w' => r = .returned (.bool (Saf.classesB p.cl (bl v))) ∧ BoxV w #[.int .i64 p.ep, .slice o1 (List.length l1) k1, .slice o2 (List.length l2) k2, .slice o3 (List.length l3) k3, .slice o4 (List.length l4) k4, .slice o5 (List.length l5) k5, .int .i64 p.dp, .int .i64 p.nd, .int .i64 p.bt] #[.string n, .string v] w') := hide (fun wx h => by
    have := rclasses_any v (.slice o4 l4.length k4) l4 hz f4 wx ((HV.out.below h.2.2).s4)
    rw [HV.out.e4] at this
    exact this.mono fun _ w' ⟨h1, h2⟩ => ⟨h1, h.keep h2⟩)
  have C5 : Hid (∀ wx, BoxV w #[.int .i64 p.ep, .slice o1 (List.length l1) k1, .slice o2 (List.length l2) k2, .slice o3 (List.length l3) k3, .slice o4 (List.length l4) k4, .slice o5 (List.length l5) k5, .int .i64 p.dp, .int .i64 p.nd, .int .i64 p.bt] #[.string n, .string v] wx → Calls Tryd.prog 12 #[.string n] wx fun r w' => r = .returned (.bool (Saf.placeB (bl n))) ∧ BoxV w #[.int .i64 p.ep, .slice o1 (List.length l1) k1, .slice o2 (List.length l2) k2, .slice o3 (List.length l3) k3, .slice o4 (List.length l4) k4, .slice o5 (List.length l5) k5, .int .i64 p.dp, .int .i64 p.nd, .int .i64 p.bt] #[.string n, .string v] w') := hide (fun wx h => (rplace_any n wx).mono fun _ w' ⟨h1, h2⟩ => ⟨h1, h.keep h2⟩)
  have C6 : Hid (∀ wx, BoxV w #[.int .i64 p.ep, .slice o1 (List.length l1) k1, .slice o2 (List.length l2) k2, .slice o3 (List.length l3) k3, .slice o4 (List.length l4) k4, .slice o5 (List.length l5) k5, .int .i64 p.dp, .int .i64 p.nd, .int .i64 p.bt] #[.string n, .string v] wx → Calls Tryd.prog 25 #[.string v, .slice o3 l3.length k3] wx fun r w' => r = .returned (.bool (allowed (bl v) p.sc)) ∧ BoxV w #[.int .i64 p.ep, .slice o1 (List.length l1) k1, .slice o2 (List.length l2) k2, .slice o3 (List.length l3) k3, .slice o4 (List.length l4) k4, .slice o5 (List.length l5) k5, .int .i64 p.dp, .int .i64 p.nd, .int .i64 p.bt] #[.string n, .string v] w') := hide (fun wx h => by
    have := Ul.rallowed_any v (.slice o3 l3.length k3) l3 (by omega) f3 wx ((HV.out.below h.2.2).s3)
    rw [HV.out.e3] at this
    exact this.mono fun _ w' ⟨h1, h2⟩ => ⟨h1, h.keep h2⟩)
  clear HV hf f1 f3 f4 f5
  generalize decide (bl e ∈ p.el) = r1 at C1 HR
  generalize attrB p (bl e) (bl n) = r3 at C3 HR
  generalize Saf.classesB p.cl (bl v) = r4 at C4 HR
  generalize Saf.placeB (bl n) = r5 at C5 HR
  generalize allowed (bl v) p.sc = r6 at C6 HR
  obtain ⟨F, hF⟩ : ∃ F : ByteArray, F = ⟨(Sty.filt p.pr (bl v)).toArray⟩ := ⟨_, rfl⟩
  have hFb : bl F = Sty.filt p.pr (bl v) := by rw [hF]
  rw [← hF] at C2
  rw [← hFb] at HR
  clear hF hFb
  have g1 := eq_lit n [114, 101, 108]
  have g2 := eq_lit n [115, 116, 121, 108, 101]
  have g3 := eq_lit n [99, 108, 97, 115, 115]
  have g4 := eq_lit e [97]
  have g5 := eq_lit v [110, 111, 102, 111, 108, 108, 111, 119, 32, 110, 111, 111, 112, 101, 110, 101, 114]
  have g6 := ne_empty v
  have g6' := empty_bl v
  have g7 := eq_two F v
  obtain ⟨y0, y1, y2, y3, y4, y5, y6, y7, y8, z0, z1, -⟩ := SK.out w1 H1.out
  go_enter Tryd.func10, Tryd.ntmps10
  go_upto_region 1 with fail
  rw [← hw1]
  clear hw1
  go_wp2_with fail
  refine (C1.out _ H1.out).mono ?_
  rintro r wx ⟨rfl, hwx⟩
  rw [hwx]
  clear hwx C1
  cases r1 with
  | false =>
    have HN : Hid (R = false) := hide (by rw [HR.out]; rfl)
    clear HR
    go_wp2_with fail
    go_ret
    rw [HN.out]
    exact ⟨rfl, H1.out.2.2⟩
  | true =>
    rw [Bool.true_and] at HR
    by_cases hrel : bl n = [114, 101, 108]
    · rw [decide_eq_true hrel] at g1
      have HN : Hid (R = (decide (bl e = [97]) && decide (bl v = [110, 111, 102, 111, 108, 108, 111, 119, 32, 110, 111, 111, 112, 101, 110, 101, 114]))) := hide (by rw [HR.out, if_pos (show bl n = Saf.relN from hrel)]; rfl)
      clear HR hrel
      generalize decide (bl e = [97]) = t1 at g4 HN
      generalize decide (bl v = [110, 111, 102, 111, 108, 108, 111, 119, 32, 110, 111, 111, 112, 101, 110, 101, 114]) = t2 at g5 HN
      cases t1 with
      | false =>
        go_wp2_with fail
        go_ret
        rw [HN.out]
        exact ⟨rfl, H1.out.2.2⟩
      | true =>
        go_wp2_with fail
        go_ret
        rw [HN.out]
        exact ⟨ret_bool (by simp), H1.out.2.2⟩
    · rw [decide_eq_false hrel] at g1
      have HR2 := hide (HR.out.trans (if_neg hrel))
      clear HR hrel g4 g5
      by_cases hsty : bl n = [115, 116, 121, 108, 101]
      · rw [decide_eq_true hsty] at g2
        have HN : Hid (R = (decide (bl v ≠ []) && decide (bl F = bl v))) := hide (by rw [HR2.out, if_pos (show bl n = Saf.styN from hsty)])
        clear HR2 hsty
        by_cases hve : bl v = []
        · rw [decide_eq_false (fun h => h hve)] at g6 HN
          rw [decide_eq_true hve] at g6'
          go_wp2_with fail
          clear y0 y1 y2 y3 y4 y5 y6 y7 y8 z0 z1
          refine wp_region_held_drew (S := (fun wx => wx.cell? ⟨w.heap.size, 0, none⟩ = some (.int .i64 p.ep) ∧ wx.cell? ⟨w.heap.size, 1, none⟩ = some (.slice o1 (List.length l1) k1) ∧ wx.cell? ⟨w.heap.size, 2, none⟩ = some (.slice o2 (List.length l2) k2) ∧ wx.cell? ⟨w.heap.size, 3, none⟩ = some (.slice o3 (List.length l3) k3) ∧ wx.cell? ⟨w.heap.size, 4, none⟩ = some (.slice o4 (List.length l4) k4) ∧ wx.cell? ⟨w.heap.size, 5, none⟩ = some (.slice o5 (List.length l5) k5) ∧ wx.cell? ⟨w.heap.size, 6, none⟩ = some (.int .i64 p.dp) ∧ wx.cell? ⟨w.heap.size, 7, none⟩ = some (.int .i64 p.nd) ∧ wx.cell? ⟨w.heap.size, 8, none⟩ = some (.int .i64 p.bt) ∧ wx.cell? ⟨w.heap.size + 1, 0, none⟩ = some (.string n) ∧ wx.cell? ⟨w.heap.size + 1, 1, none⟩ = some (.string v) ∧ Hid (BoxV w #[.int .i64 p.ep, .slice o1 (List.length l1) k1, .slice o2 (List.length l2) k2, .slice o3 (List.length l3) k3, .slice o4 (List.length l4) k4, .slice o5 (List.length l5) k5, .int .i64 p.dp, .int .i64 p.nd, .int .i64 p.bt] #[.string n, .string v] wx))) (by kernel_rfl) (SK.out _ (H1.out.keep ((Below.refl _ _).drew))) (fun hHeld => ?_)
          refine wpAnyH_at (i := 0) (v := ?ve0) (a1 := ?xe0) rfl (by kernel_rfl) (by kernel_rfl) (by kernel_rfl) (fun _ _ _ h => h) (Or.inl ⟨by rfl, ?ye0⟩) (by assumption) ?he0 ?ze0
          case ye0 => (intro w hSw; (try dsimp only at hSw); go_simp; try (with_reducible rfl))
          case he0 => (go_simp; exact rfl)
          case ze0 =>
          refine wpAnyH_at (i := 1) (v := ?ve1) (a1 := ?xe1) rfl (by kernel_rfl) (by kernel_rfl) (by kernel_rfl) (fun _ _ _ h => h) (Or.inl ⟨by rfl, ?ye1⟩) (by assumption) ?he1 ?ze1
          case ye1 => (intro w hSw; (try dsimp only at hSw); go_simp; try (with_reducible rfl))
          case he1 => (go_simp; exact rfl)
          case ze1 =>
          refine wpAnyH_at (i := 2) (v := ?ve2) (a1 := ?xe2) rfl (by kernel_rfl) (by kernel_rfl) (by kernel_rfl) (fun _ _ _ h => h) (Or.inl ⟨by rfl, ?ye2⟩) (by assumption) ?he2 ?ze2
          case ye2 => (intro w hSw; (try dsimp only at hSw); go_simp; try (with_reducible rfl))
          case he2 => (go_simp; exact rfl)
          case ze2 =>
          refine wpAnyH_at (i := 3) (v := ?ve3) (a1 := ?xe3) rfl (by kernel_rfl) (by kernel_rfl) (by kernel_rfl) (fun _ _ _ h => h) (Or.inl ⟨by rfl, ?ye3⟩) (by assumption) ?he3 ?ze3
          case ye3 => (intro w hSw; (try dsimp only at hSw); go_simp; try (with_reducible rfl))
          case he3 => (go_simp; exact rfl)
          case ze3 =>
          refine wpAnyH_at (i := 4) (v := undef) (a1 := ?xe4) rfl (by kernel_rfl) (by kernel_rfl) (by kernel_rfl) (fun _ _ _ h => h) (Or.inr ⟨by rfl, rfl⟩) (by assumption) ?he4 ?ze4
          case he4 => (go_simp; exact rfl)
          case ze4 =>
          refine wpAnyH_at (i := 5) (v := undef) (a1 := ?xe5) rfl (by kernel_rfl) (by kernel_rfl) (by kernel_rfl) (fun _ _ _ h => h) (Or.inr ⟨by rfl, rfl⟩) (by assumption) ?he5 ?ze5
          case he5 => (go_simp; exact rfl)
          case ze5 =>
          refine wpAnyH_at (i := 6) (v := undef) (a1 := ?xe6) rfl (by kernel_rfl) (by kernel_rfl) (by kernel_rfl) (fun _ _ _ h => h) (Or.inr ⟨by rfl, rfl⟩) (by assumption) ?he6 ?ze6
          case he6 => (go_simp; exact rfl)
          case ze6 =>
          refine wpAnyH_at (i := 7) (v := undef) (a1 := ?xe7) rfl (by kernel_rfl) (by kernel_rfl) (by kernel_rfl) (fun _ _ _ h => h) (Or.inr ⟨by rfl, rfl⟩) (by assumption) ?he7 ?ze7
          case he7 => (go_simp; exact rfl)
          case ze7 =>
          refine wpAnyH_at (i := 8) (v := undef) (a1 := ?xe8) rfl (by kernel_rfl) (by kernel_rfl) (by kernel_rfl) (fun _ _ _ h => h) (Or.inr ⟨by rfl, rfl⟩) (by assumption) ?he8 ?ze8
          case he8 => (go_simp; exact rfl)
          case ze8 =>
          refine wpAnyH_at (i := 9) (v := undef) (a1 := ?xe9) rfl (by kernel_rfl) (by kernel_rfl) (by kernel_rfl) (fun _ _ _ h => h) (Or.inr ⟨by rfl, rfl⟩) (by assumption) ?he9 ?ze9
          case he9 => (go_simp; exact rfl)
          case ze9 =>
          refine wpAnyH_at (i := 10) (v := undef) (a1 := ?xe10) rfl (by kernel_rfl) (by kernel_rfl) (by kernel_rfl) (fun _ _ _ h => h) (Or.inr ⟨by rfl, rfl⟩) (by assumption) ?he10 ?ze10
          case he10 => (go_simp; exact rfl)
          case ze10 =>
          refine wpAnyH_at (i := 11) (v := undef) (a1 := ?xe11) rfl (by kernel_rfl) (by kernel_rfl) (by kernel_rfl) (fun _ _ _ h => h) (Or.inr ⟨by rfl, rfl⟩) (by assumption) ?he11 ?ze11
          case he11 => (go_simp; exact rfl)
          case ze11 =>
          refine wpAnyH_at (i := 12) (v := ?ve12) (a1 := ?xe12) rfl (by kernel_rfl) (by kernel_rfl) (by kernel_rfl) (fun _ _ _ h => h) (Or.inl ⟨by rfl, ?ye12⟩) (by assumption) ?he12 ?ze12
          case ye12 => (intro w hSw; (try dsimp only at hSw); go_simp; try (with_reducible rfl))
          case he12 => (go_simp; exact rfl)
          case ze12 =>
          refine wpAnyH_at (i := 13) (v := ?ve13) (a1 := ?xe13) rfl (by kernel_rfl) (by kernel_rfl) (by kernel_rfl) (fun _ _ _ h => h) (Or.inl ⟨by rfl, ?ye13⟩) (by assumption) ?he13 ?ze13
          case ye13 => (intro w hSw; (try dsimp only at hSw); go_simp; try (with_reducible rfl))
          case he13 => (go_simp; exact rfl)
          case ze13 =>
          refine wpAnyH_done (by kernel_rfl) ?_ _
          have H7 := hide (SB.out _ (by assumption))
          go_wp2_with fail
          go_ret
          rw [HN.out]
          exact ⟨rfl, H7.out.2.2⟩
        · rw [decide_eq_true hve] at g6 HN
          rw [decide_eq_false hve] at g6'
          generalize decide (bl F = bl v) = t2 at g7 HN
          go_wp2_with fail
          clear y0 y1 y2 y3 y4 y5 y6 y7 y8 z0 z1
          refine wp_region_held_drew (S := (fun wx => wx.cell? ⟨w.heap.size, 0, none⟩ = some (.int .i64 p.ep) ∧ wx.cell? ⟨w.heap.size, 1, none⟩ = some (.slice o1 (List.length l1) k1) ∧ wx.cell? ⟨w.heap.size, 2, none⟩ = some (.slice o2 (List.length l2) k2) ∧ wx.cell? ⟨w.heap.size, 3, none⟩ = some (.slice o3 (List.length l3) k3) ∧ wx.cell? ⟨w.heap.size, 4, none⟩ = some (.slice o4 (List.length l4) k4) ∧ wx.cell? ⟨w.heap.size, 5, none⟩ = some (.slice o5 (List.length l5) k5) ∧ wx.cell? ⟨w.heap.size, 6, none⟩ = some (.int .i64 p.dp) ∧ wx.cell? ⟨w.heap.size, 7, none⟩ = some (.int .i64 p.nd) ∧ wx.cell? ⟨w.heap.size, 8, none⟩ = some (.int .i64 p.bt) ∧ wx.cell? ⟨w.heap.size + 1, 0, none⟩ = some (.string n) ∧ wx.cell? ⟨w.heap.size + 1, 1, none⟩ = some (.string v) ∧ Hid (BoxV w #[.int .i64 p.ep, .slice o1 (List.length l1) k1, .slice o2 (List.length l2) k2, .slice o3 (List.length l3) k3, .slice o4 (List.length l4) k4, .slice o5 (List.length l5) k5, .int .i64 p.dp, .int .i64 p.nd, .int .i64 p.bt] #[.string n, .string v] wx))) (by kernel_rfl) (SK.out _ (H1.out.keep ((Below.refl _ _).drew))) (fun hHeld => ?_)
          refine wpAnyH_at (i := 0) (v := ?vf0) (a1 := ?xf0) rfl (by kernel_rfl) (by kernel_rfl) (by kernel_rfl) (fun _ _ _ h => h) (Or.inl ⟨by rfl, ?yf0⟩) (by assumption) ?hf0 ?zf0
          case yf0 => (intro w hSw; (try dsimp only at hSw); go_simp; try (with_reducible rfl))
          case hf0 => (go_simp; exact rfl)
          case zf0 =>
          refine wpAnyH_at (i := 1) (v := ?vf1) (a1 := ?xf1) rfl (by kernel_rfl) (by kernel_rfl) (by kernel_rfl) (fun _ _ _ h => h) (Or.inl ⟨by rfl, ?yf1⟩) (by assumption) ?hf1 ?zf1
          case yf1 => (intro w hSw; (try dsimp only at hSw); go_simp; try (with_reducible rfl))
          case hf1 => (go_simp; exact rfl)
          case zf1 =>
          refine wpAnyH_at (i := 2) (v := ?vf2) (a1 := ?xf2) rfl (by kernel_rfl) (by kernel_rfl) (by kernel_rfl) (fun _ _ _ h => h) (Or.inl ⟨by rfl, ?yf2⟩) (by assumption) ?hf2 ?zf2
          case yf2 => (intro w hSw; (try dsimp only at hSw); go_simp; try (with_reducible rfl))
          case hf2 => (go_simp; exact rfl)
          case zf2 =>
          refine wpAnyH_at (i := 3) (v := ?vf3) (a1 := ?xf3) rfl (by kernel_rfl) (by kernel_rfl) (by kernel_rfl) (fun _ _ _ h => h) (Or.inl ⟨by rfl, ?yf3⟩) (by assumption) ?hf3 ?zf3
          case yf3 => (intro w hSw; (try dsimp only at hSw); go_simp; try (with_reducible rfl))
          case hf3 => (go_simp; exact rfl)
          case zf3 =>
          refine wpAnyH_at (i := 4) (v := ?vf4) (a1 := ?xf4) rfl (by kernel_rfl) (by kernel_rfl) (by kernel_rfl) (fun _ _ _ h => h) (Or.inl ⟨by rfl, ?yf4⟩) (by assumption) ?hf4 ?zf4
          case yf4 => (intro w hSw; (try dsimp only at hSw); go_simp; try (with_reducible rfl))
          case hf4 => (go_simp; exact rfl)
          case zf4 =>
          refine wpAnyH_at (i := 5) (v := ?vf5) (a1 := ?xf5) rfl (by kernel_rfl) (by kernel_rfl) (by kernel_rfl) (fun _ _ _ h => h) (Or.inl ⟨by rfl, ?yf5⟩) (by assumption) ?hf5 ?zf5
          case yf5 => (intro w hSw; (try dsimp only at hSw); go_simp; try (with_reducible rfl))
          case hf5 => (go_simp; exact rfl)
          case zf5 =>
          refine wpAnyH_at (i := 6) (v := ?vf6) (a1 := ?xf6) rfl (by kernel_rfl) (by kernel_rfl) (by kernel_rfl) (fun _ _ _ h => h) (Or.inl ⟨by rfl, ?yf6⟩) (by assumption) ?hf6 ?zf6
          case yf6 => (intro w hSw; (try dsimp only at hSw); go_simp; try (with_reducible rfl))
          case hf6 => (go_simp; exact rfl)
          case zf6 =>
          refine wpAnyH_at (i := 7) (v := ?vf7) (a1 := ?xf7) rfl (by kernel_rfl) (by kernel_rfl) (by kernel_rfl) (fun _ _ _ h => h) (Or.inl ⟨by rfl, ?yf7⟩) (by assumption) ?hf7 ?zf7
          case yf7 => (intro w hSw; (try dsimp only at hSw); go_simp; try (with_reducible rfl))
          case hf7 => (go_simp; exact rfl)
          case zf7 =>
          refine wpAnyH_at (i := 9) (v := ?vf9) (a1 := ?xf9) rfl (by kernel_rfl) (by kernel_rfl) (by kernel_rfl) (fun _ _ _ h => h) (Or.inl ⟨by rfl, ?yf9⟩) (by assumption) ?hf9 ?zf9
          case yf9 => (intro w hSw; (try dsimp only at hSw); go_simp; try (with_reducible rfl))
          case hf9 => (go_simp; exact rfl)
          case zf9 =>
          refine wpAnyH_at (i := 10) (v := ?vf10) (a1 := ?xf10) rfl (by kernel_rfl) (by kernel_rfl) (by kernel_rfl) (fun _ _ _ h => h) (Or.inl ⟨by rfl, ?yf10⟩) (by assumption) ?hf10 ?zf10
          case yf10 => (intro w hSw; (try dsimp only at hSw); go_simp; try (with_reducible rfl))
          case hf10 => (go_simp; exact rfl)
          case zf10 =>
          refine wpAnyH_ready (rs := [8]) (by kernel_rfl) (by simp) ?_
          refine AllReadyH.cons rfl (fun K hK => ?_) AllReadyH.nil
          go_simp
          refine (C2.out _ (SB.out _ (by assumption))).mono ?_
          rintro r w6 ⟨rfl, h6⟩
          try go_wp2_with fail
          refine hK.out _ _ (SK.out _ (by assumption)) (fun hHeld2 => ?_)
          clear hK K hHeld
          have hHeld := hHeld2
          clear hHeld2
          refine wpAnyH_at (i := 11) (v := ?vf11) (a1 := ?xf11) rfl (by kernel_rfl) (by kernel_rfl) (by kernel_rfl) (fun _ _ _ h => h) (Or.inl ⟨by rfl, ?yf11⟩) (by assumption) ?hf11 ?zf11
          case yf11 => (intro w hSw; (try dsimp only at hSw); go_simp; try (with_reducible rfl))
          case hf11 => (go_simp; exact rfl)
          case zf11 =>
          refine wpAnyH_at (i := 12) (v := ?vf12) (a1 := ?xf12) rfl (by kernel_rfl) (by kernel_rfl) (by kernel_rfl) (fun _ _ _ h => h) (Or.inl ⟨by rfl, ?yf12⟩) (by assumption) ?hf12 ?zf12
          case yf12 => (intro w hSw; (try dsimp only at hSw); go_simp; try (with_reducible rfl))
          case hf12 => (go_simp; exact rfl)
          case zf12 =>
          refine wpAnyH_at (i := 13) (v := ?vf13) (a1 := ?xf13) rfl (by kernel_rfl) (by kernel_rfl) (by kernel_rfl) (fun _ _ _ h => h) (Or.inl ⟨by rfl, ?yf13⟩) (by assumption) ?hf13 ?zf13
          case yf13 => (intro w hSw; (try dsimp only at hSw); go_simp; try (with_reducible rfl))
          case hf13 => (go_simp; exact rfl)
          case zf13 =>
          refine wpAnyH_done (by kernel_rfl) ?_ _
          have H7 := hide (SB.out _ (by assumption))
          go_wp2_with fail
          go_ret
          rw [HN.out]
          exact ⟨ret_bool (by simp), H7.out.2.2⟩
      · rw [decide_eq_false hsty] at g2
        have HR3 := hide (HR2.out.trans (if_neg hsty))
        clear HR2 hsty C2 g7
        go_wp2_with fail
        refine (C3.out _ H1.out).mono ?_
        rintro r w2 ⟨rfl, h2⟩
        have H2 := hide h2
        clear h2 C3 H1 y0 y1 y2 y3 y4 y5 y6 y7 y8 z0 z1
        obtain ⟨y0, y1, y2, y3, y4, y5, y6, y7, y8, z0, z1, -⟩ := SK.out w2 H2.out
        cases r3 with
        | false =>
          have HN : Hid (R = false) := hide (by rw [HR3.out]; rfl)
          clear HR3
          go_wp2_with fail
          go_ret
          rw [HN.out]
          exact ⟨rfl, H2.out.2.2⟩
        | true =>
          rw [Bool.true_and] at HR3
          by_cases hcl : bl n = [99, 108, 97, 115, 115]
          · rw [decide_eq_true hcl] at g3
            have HN : Hid (R = (decide (bl v ≠ []) && r4)) := hide (by rw [HR3.out, if_pos (show bl n = Saf.clsN from hcl)])
            clear HR3 hcl
            by_cases hve : bl v = []
            · rw [decide_eq_false (fun h => h hve)] at g6 HN
              rw [decide_eq_true hve] at g6'
              go_wp2_with fail
              go_ret
              rw [HN.out]
              exact ⟨rfl, H2.out.2.2⟩
            · rw [decide_eq_true hve] at g6 HN
              rw [decide_eq_false hve] at g6'
              go_wp2_with fail
              refine (C4.out _ H2.out).mono ?_
              rintro r w3 ⟨rfl, h3⟩
              have H3 := hide h3
              clear h3 C4 H2 y0 y1 y2 y3 y4 y5 y6 y7 y8 z0 z1
              go_wp2_with fail
              go_ret
              rw [HN.out]
              exact ⟨ret_bool (by simp), H3.out.2.2⟩
          · rw [decide_eq_false hcl] at g3
            have HN : Hid (R = (!r5 || r6)) := hide (HR3.out.trans (if_neg hcl))
            clear HR3 hcl
            go_wp2_with fail
            refine (C5.out _ H2.out).mono ?_
            rintro r w3 ⟨rfl, h3⟩
            have H3 := hide h3
            clear h3 C5 H2 y0 y1 y2 y3 y4 y5 y6 y7 y8 z0 z1
            obtain ⟨y0, y1, y2, y3, y4, y5, y6, y7, y8, z0, z1, -⟩ := SK.out w3 H3.out
            cases r5 with
            | false =>
              go_wp2_with fail
              go_ret
              rw [HN.out]
              exact ⟨rfl, H3.out.2.2⟩
            | true =>
              go_wp2_with fail
              refine (C6.out _ H3.out).mono ?_
              rintro r w4 ⟨rfl, h4⟩
              have H4 := hide h4
              clear h4 C6 H3 y0 y1 y2 y3 y4 y5 y6 y7 y8 z0 z1
              go_wp2_with fail
              go_ret
              rw [HN.out]
              exact ⟨ret_bool (by simp), H4.out.2.2⟩
end Go.Proofs.YtbcadeikdmlpoaaDoor
