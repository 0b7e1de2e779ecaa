/-
  The program's isNode, isZero and rightIDs, walked.
-/
import Derived.Test.YtmogplecohkjcaaGreatDoorMD7
import Derived.Test.YtmogplecohkjcaaGreatDoorPC
import Derived.Test.YtmogplecohkjcaaGreatDoorR5
import Derived.BigQuiet
import Derived.RegionTactic
namespace Go.Proofs.YtmogplecohkjcaaGreatDoor
open Go.RowKit
open Utf1
open Pol8 hiding text right Right
open Msg15

theorem eisNode_any (n : Int) (w : World) :
    Calls Tryz.prog 34 #[.int .i64 n] w fun e w' => e = .returned (.bool (decide (0 ≤ n ∧ n ≤ 5))) ∧ w' = w := by
  obtain ⟨R, hR⟩ : ∃ R, R = decide (0 ≤ n ∧ n ≤ 5) := ⟨_, rfl⟩
  rw [← hR]
  have HAL := hide hR
  clear hR
  by_cases h0 : 0 ≤ n
  · have d0 : decide (0 ≤ n) = true := decide_eq_true h0
    by_cases h5 : n ≤ 5
    · have d5 : decide (n ≤ 5) = true := decide_eq_true h5
      have HR : Hid (R = true) := hide (by rw [HAL.out]; exact decide_eq_true ⟨h0, h5⟩)
      go_enter Tryz.func34, Tryz.ntmps34
      go_wp2_with fail
      go_ret
      rw [HR.out]
      exact ⟨rfl, rfl⟩
    · have d5 : decide (n ≤ 5) = false := decide_eq_false h5
      have HR : Hid (R = false) := hide (by rw [HAL.out]; exact decide_eq_false (fun h => h5 h.2))
      go_enter Tryz.func34, Tryz.ntmps34
      go_wp2_with fail
      go_ret
      rw [HR.out]
      exact ⟨rfl, rfl⟩
  · have d0 : decide (0 ≤ n) = false := decide_eq_false h0
    have HR : Hid (R = false) := hide (by rw [HAL.out]; exact decide_eq_false (fun h => h0 h.1))
    go_enter Tryz.func34, Tryz.ntmps34
    go_wp2_with fail
    go_ret
    rw [HR.out]
    exact ⟨rfl, rfl⟩

theorem map_nil_len {l : List ByteArray} {m : List L} (e : m = l.map bl) : m = [] ↔ l.length = 0 := by
  subst e
  cases l <;> simp

set_option maxRecDepth 100000 in
set_option maxHeartbeats 8000000 in
theorem eisZero_any (v1 v2 v3 v4 v5 : Value) (p : Pol) (l1 l2 l3 l4 l5 : List ByteArray) (w : World) (hv : PolV w v1 v2 v3 v4 v5 p l1 l2 l3 l4 l5) (hf : fits p) :
    Calls Tryz.prog 35 #[pval p v1 v2 v3 v4 v5] w fun e w' => (∃ b : Bool, e = .returned (.bool b) ∧ (b = true ↔ p = Pol.zero)) ∧ Below w.heap.size w w' := by
  obtain ⟨f1, -⟩ := fits_of hf (by simp) hv.e1
  obtain ⟨f2, -⟩ := fits_of hf (by simp) hv.e2
  obtain ⟨f3, -⟩ := fits_of hf (by simp) hv.e3
  obtain ⟨f4, -⟩ := fits_of hf (by simp) hv.e4
  obtain ⟨f5, -⟩ := fits_of hf (by simp) hv.e5
  have HZ : Hid (p = Pol.zero ↔ ((l1.length = 0 ∧ l2.length = 0 ∧ l3.length = 0 ∧ l4.length = 0 ∧ l5.length = 0) ∧ p.ep = 0 ∧ p.dp = 0 ∧ p.nd = 0 ∧ p.bt = 0)) := hide (by
    rw [← map_nil_len hv.e1.symm, ← map_nil_len hv.e2.symm, ← map_nil_len hv.e3.symm, ← map_nil_len hv.e4.symm, ← map_nil_len hv.e5.symm]
    obtain ⟨a, b, c, d, e, f, g, h, i⟩ := p
    simp only [Pol.zero, Pol.mk.injEq]
    constructor
    · rintro ⟨h1, h2, h3, h4, h5, h6, h7, h8, h9⟩
      exact ⟨⟨h2, h3, h4, h5, h6⟩, h1, h7, h8, h9⟩
    · rintro ⟨⟨h2, h3, h4, h5, h6⟩, h1, h7, h8, h9⟩
      exact ⟨h1, h2, h3, h4, h5, h6, h7, h8, h9⟩)
  obtain ⟨q1, c1, rfl, -, -⟩ := id hv.s1
  obtain ⟨q2, c2, rfl, -, -⟩ := id hv.s2
  obtain ⟨q3, c3, rfl, -, -⟩ := id hv.s3
  obtain ⟨q4, c4, rfl, -, -⟩ := id hv.s4
  obtain ⟨q5, c5, rfl, -, -⟩ := id hv.s5
  clear hv hf
  show Calls Tryz.prog 35 #[.agg #[.int .i64 p.ep, .slice q1 l1.length c1, .slice q2 l2.length c2, .slice q3 l3.length c3, .slice q4 l4.length c4, .slice q5 l5.length c5, .int .i64 p.dp, .int .i64 p.nd, .int .i64 p.bt]] w _
  generalize l1.length = n1 at *
  generalize l2.length = n2 at *
  generalize l3.length = n3 at *
  generalize l4.length = n4 at *
  generalize l5.length = n5 at *
  obtain ⟨T, hT⟩ : ∃ T : Prop, T = (p = Pol.zero) := ⟨_, rfl⟩
  rw [← hT] at HZ ⊢
  clear hT
  generalize p.ep = x0 at *
  generalize p.dp = x6 at *
  generalize p.nd = x7 at *
  generalize p.bt = x8 at *
  obtain ⟨w1, hw1⟩ : ∃ w1, w1 = w.alloc (.cells #[.int .i64 x0, .slice q1 n1 c1, .slice q2 n2 c2, .slice q3 n3 c3, .slice q4 n4 c4, .slice q5 n5 c5, .int .i64 x6, .int .i64 x7, .int .i64 x8] 33) := ⟨_, rfl⟩
  have HN : Hid (BoxP w #[.int .i64 x0, .slice q1 n1 c1, .slice q2 n2 c2, .slice q3 n3 c3, .slice q4 n4 c4, .slice q5 n5 c5, .int .i64 x6, .int .i64 x7, .int .i64 x8] w1) := hide (by rw [hw1]; exact ⟨new_block _ _ _, bel_alloc (Below.refl _ _) _⟩)
  have y0 := HN.out.cell 0 _ rfl
  have y1 := HN.out.cell 1 _ rfl
  have y2 := HN.out.cell 2 _ rfl
  have y3 := HN.out.cell 3 _ rfl
  have y4 := HN.out.cell 4 _ rfl
  have y5 := HN.out.cell 5 _ rfl
  have y6 := HN.out.cell 6 _ rfl
  have y7 := HN.out.cell 7 _ rfl
  have y8 := HN.out.cell 8 _ rfl
  go_enter Tryz.func35, Tryz.ntmps35
  go_upto_region 1 with fail
  rw [← hw1]
  clear hw1
  by_cases hs : n1 + n2 + n3 + n4 + n5 = 0
  · have ds : ((n1 : Int) + (n2 : Int) + (n3 : Int) + (n4 : Int) + (n5 : Int) == 0) = true := by simp; omega
    by_cases h0 : x0 = 0
    · have d0 : (x0 == 0) = true := by simp [h0]
      by_cases h6 : x6 = 0
      · have d6 : (x6 == 0) = true := by simp [h6]
        by_cases h7 : x7 = 0
        · have d7 : (x7 == 0) = true := by simp [h7]
          by_cases h8 : x8 = 0
          · have d8 : (x8 == 0) = true := by simp [h8]
            have HT : Hid T := hide (HZ.out.2 ⟨⟨by omega, by omega, by omega, by omega, by omega⟩, h0, h6, h7, h8⟩)
            clear h0 h6 h7 h8 hs
            go_wp2_with fail
            go_ret
            exact ⟨⟨_, rfl, ⟨fun _ => HT.out, fun _ => rfl⟩⟩, HN.out.2⟩
          · have d8 : (x8 == 0) = false := by simp [h8]
            have HT : Hid (¬ T) := hide (fun h => h8 (HZ.out.1 h).2.2.2.2)
            clear h0 h6 h7 h8 hs
            go_wp2_with fail
            go_ret
            exact ⟨⟨_, rfl, ⟨fun h => (by cases h), fun h => absurd h HT.out⟩⟩, HN.out.2⟩
        · have d7 : (x7 == 0) = false := by simp [h7]
          have HT : Hid (¬ T) := hide (fun h => h7 (HZ.out.1 h).2.2.2.1)
          clear h0 h6 h7 hs
          go_wp2_with fail
          go_ret
          exact ⟨⟨_, rfl, ⟨fun h => (by cases h), fun h => absurd h HT.out⟩⟩, HN.out.2⟩
      · have d6 : (x6 == 0) = false := by simp [h6]
        have HT : Hid (¬ T) := hide (fun h => h6 (HZ.out.1 h).2.2.1)
        clear h0 h6 hs
        go_wp2_with fail
        go_ret
        exact ⟨⟨_, rfl, ⟨fun h => (by cases h), fun h => absurd h HT.out⟩⟩, HN.out.2⟩
    · have d0 : (x0 == 0) = false := by simp [h0]
      have HT : Hid (¬ T) := hide (fun h => h0 (HZ.out.1 h).2.1)
      clear h0 hs
      go_wp2_with fail
      go_ret
      exact ⟨⟨_, rfl, ⟨fun h => (by cases h), fun h => absurd h HT.out⟩⟩, HN.out.2⟩
  · have ds : ((n1 : Int) + (n2 : Int) + (n3 : Int) + (n4 : Int) + (n5 : Int) == 0) = false := by simp; omega
    have HT : Hid (¬ T) := hide (fun h => by
      obtain ⟨⟨a1, a2, a3, a4, a5⟩, _⟩ := HZ.out.1 h
      omega)
    clear hs
    go_wp2_with fail
    go_ret
    exact ⟨⟨_, rfl, ⟨fun h => (by cases h), fun h => absurd h HT.out⟩⟩, HN.out.2⟩

set_option maxRecDepth 100000 in
set_option maxHeartbeats 8000000 in
theorem erightIDs_any (v : Value) (ss : List ByteArray) (hl : ss.length ≤ 100000) (w : World) (hv : StrArg w v ss) :
    Calls Tryz.prog 36 #[v] w fun e w' => e = .returned (.bool (riseI (ss.map bl))) ∧ Below w.heap.size w w' := by
  obtain ⟨R, hR⟩ : ∃ R, R = riseI (ss.map bl) := ⟨_, rfl⟩
  rw [← hR]
  have HAL := hide hR
  clear hR
  have HV := hide hv
  obtain ⟨p, cap, rfl, -, hc⟩ := hv
  obtain ⟨N, hN⟩ : ∃ N, N = ss.length := ⟨_, rfl⟩
  rw [← hN] at hl HV ⊢
  have HN := hide hN
  clear hc hN
  go_enter Tryz.func36, Tryz.ntmps36
  by_cases h64 : 64 < N
  · have d64 : decide ((64 : Int) < (N : Int)) = true := decide_eq_true (by omega)
    have HF : Hid (R = false) := hide (by
      rw [HAL.out]
      unfold riseI
      have h1 : decide ((ss.map bl).length ≤ 64) = false := decide_eq_false (by rw [List.length_map, ← HN.out]; omega)
      rw [h1, Bool.and_false, Bool.and_false])
    clear h64
    go_wp2_with fail
    go_ret
    rw [HF.out]
    exact ⟨rfl, Below.refl _ _⟩
  have d64 : decide ((64 : Int) < (N : Int)) = false := decide_eq_false (by omega)
  go_wp2_with fail
  go_loopg [10] N (fun g v wx => ∃ i : Nat, i + g = N ∧ v = .int .i64 (i : Int) ∧ Hid (RsI (ss.map bl) i ∧ Below w.heap.size w wx))
  case atStart => exact ⟨0, by omega, rfl, hide ⟨⟨fun j a h => by omega, fun j a b h => by omega⟩, Below.refl _ _⟩⟩
  case round =>
    obtain ⟨i, hig, rfl, HU⟩ := hrel
    by_cases hlt : i < N
    · have hd : decide ((i : Int) < (N : Int)) = true := decide_eq_true (by omega)
      obtain ⟨x, hx⟩ : ∃ y, ss[i]? = some y := ⟨_, List.getElem?_eq_getElem (by rw [← HN.out]; exact hlt)⟩
      obtain ⟨p', cap', e, -, hc⟩ := HV.out.below HU.out.2
      injection e with e1 e2 e3
      clear e2 e3
      obtain ⟨b, off, e4, c1⟩ := hc i x hx
      rw [← e1] at e4
      subst e4
      have HXX : Hid ((ss.map bl)[i]? = some (bl x) ∧ (bl x).length = x.size) := hide ⟨by rw [List.getElem?_map, hx]; rfl, bl_len x⟩
      have HB : Hid (Below w.heap.size w wr) := hide HU.out.2
      by_cases h1 : x.size < 1
      · have HR : Hid (R = false) := hide (by rw [HAL.out]; exact rs_bad_len HXX.out.1 (by rw [HXX.out.2]; omega))
        have d1 : decide ((x.size : Int) < 1) = true := decide_eq_true (by omega)
        clear h1 hc hx e1
        go_wp2_with fail
        go_ret
        rw [HR.out]
        exact ⟨rfl, HU.out.2⟩
      · have d1 : decide ((x.size : Int) < 1) = false := decide_eq_false (by omega)
        by_cases h16 : 16 < x.size
        · have HR : Hid (R = false) := hide (by rw [HAL.out]; exact rs_bad_len HXX.out.1 (by rw [HXX.out.2]; omega))
          have d2 : decide ((16 : Int) < (x.size : Int)) = true := decide_eq_true (by omega)
          clear h1 h16 hc hx e1
          go_wp2_with fail
          go_ret
          rw [HR.out]
          exact ⟨rfl, HU.out.2⟩
        · have d2 : decide ((16 : Int) < (x.size : Int)) = false := decide_eq_false (by omega)
          have HLX : Hid (1 ≤ (bl x).length ∧ (bl x).length ≤ 16) := hide (by rw [HXX.out.2]; omega)
          by_cases h0 : i = 0
          · have HS : Hid (RsI (ss.map bl) (i + 1)) := hide (HU.out.1.step HXX.out.1 HLX.out (fun _ => .inl h0))
            have d0 : decide (0 < i) = false := decide_eq_false (by omega)
            have H0 := hide h0
            clear h1 h16 hc hx e1 h0
            go_wp2_with fail
            go_roundg (N - (i + 1))
            case measure => omega
            case rel => exact ⟨i + 1, by omega, by first | rfl | simp, hide ⟨HS.out, HU.out.2⟩⟩
          · have d0 : decide ((0 : Int) < (i : Int)) = true := decide_eq_true (by omega)
            obtain ⟨k, rfl⟩ : ∃ k, i = k + 1 := ⟨i - 1, by omega⟩
            obtain ⟨y, hy⟩ : ∃ y, ss[k]? = some y := ⟨_, List.getElem?_eq_getElem (by rw [← HN.out]; omega)⟩
            obtain ⟨b', off', e5, c0⟩ := hc k y hy
            rw [← e1] at e5
            injection e5 with e5
            injection e5 with e6 e7
            subst e6
            subst e7
            have hkc : ((k + 1 : Nat) : Int) - 1 = (k : Int) := by omega
            have HYY : Hid ((ss.map bl)[k]? = some (bl y)) := hide (by rw [List.getElem?_map, hy]; rfl)
            clear hc hx hy e1
            cases hxy : lt (bl y) (bl x) with
            | true =>
              have HS : Hid (RsI (ss.map bl) (k + 1 + 1)) := hide (HU.out.1.step HXX.out.1 HLX.out (fun b => .inr (fun hb => by
                rw [Nat.add_sub_cancel, HYY.out] at hb
                rw [← Option.some.inj hb]
                exact hxy)))
              have hgq2 := mless_is y x
              rw [hxy] at hgq2
              clear hxy h1 h16 h0
              go_wp2_with fail
              go_roundg (N - (k + 1 + 1))
              case measure => omega
              case rel => exact ⟨k + 1 + 1, by omega, by first | rfl | simp | (congr 1), hide ⟨HS.out, HU.out.2⟩⟩
            | false =>
              have HR : Hid (R = false) := hide (by rw [HAL.out]; exact rs_bad_lt HYY.out HXX.out.1 hxy)
              have hgq2 := mless_is y x
              rw [hxy] at hgq2
              clear hxy h1 h16 h0
              go_wp2_with fail
              go_ret
              rw [HR.out]
              exact ⟨rfl, HU.out.2⟩
    · have hd : decide ((i : Int) < (N : Int)) = false := decide_eq_false (by omega)
      have HR : Hid (R = true) := hide (by
        have hiN : i = (ss.map bl).length := by rw [List.length_map, ← HN.out]; omega
        have h := HU.out.1
        rw [hiN] at h
        rw [HAL.out, rsI_all h, List.length_map, ← HN.out]
        exact decide_eq_true (by omega))
      have HB := hide HU.out.2
      clear HU HAL
      go_wp2_with fail
      go_ret
      rw [HR.out]
      exact ⟨rfl, HB.out⟩
end Go.Proofs.YtmogplecohkjcaaGreatDoor

namespace Go.Proofs.YtmogplecohkjcaaGreatDoor
open Go.RowKit
open Utf1
open Pol8 hiding text right Right
open Msg15

set_option maxRecDepth 100000 in
set_option maxHeartbeats 8000000 in
theorem erightPosts_any (v : Value) (ts : List (ByteArray × ByteArray)) (hl : ts.length ≤ 100000) (w : World) (hv : PostRow w v ts) :
    Calls Tryz.prog 37 #[v] w fun e w' => (∃ b : Bool, e = .returned (.bool b) ∧ (b = true ↔ (riseI (ts.map (fun x => bl x.1)) = true ∧ ∀ (j : Nat) (x y : ByteArray), ts[j]? = some (x, y) → y.size ≤ 2000))) ∧ Below w.heap.size w w' := by
  obtain ⟨i0, hi, hz0, hz1, hz2⟩ := info_parts infoStrM4
  have HV := hide hv
  obtain ⟨p, cap, rfl, -, -, -⟩ := hv
  obtain ⟨N, hN⟩ : ∃ N, N = ts.length := ⟨_, rfl⟩
  rw [← hN] at hl HV ⊢
  have HN := hide hN
  clear hN
  go_enter Tryz.func37, Tryz.ntmps37
  by_cases h64 : 64 < N
  · have d64 : decide ((64 : Int) < (N : Int)) = true := decide_eq_true (by omega)
    have HF : Hid (riseI (ts.map (fun x => bl x.1)) = false) := hide (by
      unfold riseI
      have h1 : decide ((ts.map (fun x => bl x.1)).length ≤ 64) = false := decide_eq_false (by rw [List.length_map, ← HN.out]; omega)
      rw [h1, Bool.and_false, Bool.and_false])
    clear h64
    go_wp2_with fail
    go_ret
    exact ⟨⟨false, rfl, ⟨fun h => (by cases h), fun h => (by rw [HF.out] at h; cases h.1)⟩⟩, Below.refl _ _⟩
  · have d64 : decide ((64 : Int) < (N : Int)) = false := decide_eq_false (by omega)
    have hn64 : N ≤ 64 := by omega
    clear h64
    go_wp2_with fail
    go_loopg [3, 11] N (fun g v3 v11 wr => ∃ (i n cp : Nat) (q : Option Addr), i + g = N ∧ n = i ∧ v11 = .int .i64 (i : Int) ∧ v3 = .slice q n cp ∧ Hid (wr.ownsRow w.heap.size 9 1 (.slice q n cp) n (strV ((ts.take i).map (·.1))) ∧ Below w.heap.size w wr ∧ ∀ (j : Nat) (x y : ByteArray), j < i → ts[j]? = some (x, y) → y.size ≤ 2000))
    case atStart => exact ⟨0, 0, 0, none, by omega, rfl, rfl, rfl, hide ⟨⟨rfl, .inl ⟨rfl, rfl⟩⟩, Below.refl _ _, fun j x y h => by omega⟩⟩
    case round =>
      obtain ⟨i, n, cp, q, hig, hni, rfl, rfl, HR⟩ := hrel
      by_cases hlt : i < N
      · have hd : decide ((i : Int) < (N : Int)) = true := decide_eq_true (by omega)
        have hia : i < ts.length := by rw [← HN.out]; exact hlt
        have hga : ts[i]? = some ts[i] := List.getElem?_eq_getElem hia
        generalize ts[i] = ab at hga
        obtain ⟨a, b⟩ := ab
        obtain ⟨g, off, rfl, c0, c1⟩ : ∃ g off, p = some ⟨g, off, none⟩ ∧ wr.cell? ⟨g, off + i * 2, none⟩ = some (.string a) ∧ wr.cell? ⟨g, off + i * 2 + 1, none⟩ = some (.string b) := by
          obtain ⟨p', cap', e, _, _, hc⟩ := HV.out.below HR.out.2.1
          injection e with e1 e2 e3
          obtain ⟨g, off, e4, x, y⟩ := hc i a b hga
          exact ⟨g, off, e1.trans e4, x, y⟩
        obtain ⟨w2, hw2⟩ : ∃ w2, w2 = wr.alloc (.cells #[.string a, .string b] 57) := ⟨_, rfl⟩
        have z0 : w2.cell? ⟨wr.heap.size, 0, none⟩ = some (.string a) := by rw [hw2]; exact tag_cell (new_block _ _ _) 0 _ rfl
        have z1 : w2.cell? ⟨wr.heap.size, 1, none⟩ = some (.string b) := by rw [hw2]; exact tag_cell (new_block _ _ _) 1 _ rfl
        have HB2 : Hid (Below w.heap.size w w2 ∧ w2.ownsRow w.heap.size 9 1 (.slice q n cp) n (strV ((ts.take i).map (·.1)))) := hide (by rw [hw2]; exact ⟨bel_alloc HR.out.2.1 _, HR.out.1.alloc _⟩)
        go_upto_region 7 with fail
        rw [← hw2]
        clear hw2 c0 c1
        by_cases h2 : 2000 < b.size
        · have d2 : decide ((2000 : Int) < (b.size : Int)) = true := decide_eq_true (by omega)
          have HF : Hid (¬ ∀ (j : Nat) (x y : ByteArray), ts[j]? = some (x, y) → y.size ≤ 2000) := hide (fun h => by have := h i a b hga; omega)
          clear hga h2
          go_wp2_with fail
          go_ret
          exact ⟨⟨false, rfl, ⟨fun h => (by cases h), fun h => absurd h.2 HF.out⟩⟩, HB2.out.1⟩
        · have d2 : decide ((2000 : Int) < (b.size : Int)) = false := decide_eq_false (by omega)
          have HK : Hid (∀ (j : Nat) (x y : ByteArray), j < i + 1 → ts[j]? = some (x, y) → y.size ≤ 2000) := hide (fun j x y hj hx => by
            by_cases e : j = i
            · subst e
              rw [hga] at hx
              injection hx with hx
              injection hx with _ hx
              rw [← hx]
              omega
            · exact HR.out.2.2 j x y (by omega) hx)
          have HTK : Hid ((ts.take (i + 1)).map (·.1) = (ts.take i).map (·.1) ++ [a]) := hide (by
            rw [List.take_add_one, hga, List.map_append]
            rfl)
          have HOW : Hid ((w2.alloc (.cells #[.string a] 9)).ownsRow w.heap.size 9 1 (.slice q n cp) n (strV ((ts.take i).map (·.1)))) := hide (HB2.out.2.alloc _)
          have HSZ : Hid (w.heap.size ≤ (w2.alloc (.cells #[.string a] 9)).heap.size) := hide (by have := HB2.out.1.size; simp; omega)
          have HNI := hide hni
          have hn1 : n ≤ 100000 := by omega
          clear hga hia hni h2
          go_wp2_with (at_builtin; refine wpList_append_own _ rfl _ _ 30 rfl w.heap.size 9 i0 _ 1 16 Tryz.underlying30 hi hz0 hz1 hz2 rfl (by decide) (.slice q n cp) n (strV ((ts.take i).map (·.1))) rfl HOW.out ⟨w2.heap.size, 0, none⟩ 1 1 [.string a] rfl rfl (one_new _ _ _) (by simp [Value.oneCell']) (by unfold maxLen; omega) (by omega) HSZ.out ?_)
          intro u' w3 hown3 hg3 _
          obtain ⟨p', c', rfl, -⟩ := own_shape hown3
          have HR3 : Hid (w3.ownsRow w.heap.size 9 1 (.slice p' (n + 1) c') (n + 1) (strV ((ts.take (i + 1)).map (·.1))) ∧ Below w.heap.size w w3) := hide ⟨by rw [HTK.out, strV_app, List.map_take]; exact hown3, (HB2.out.1.alloc HB2.out.1.size _).grown hg3 HSZ.out (fun kk hkk => (HOW.out.lt kk hkk).1)⟩
          clear hown3 hg3 HOW HSZ HR HB2
          go_wp2_with fail
          go_roundg (N - (i + 1))
          case measure => omega
          case rel => exact ⟨i + 1, n + 1, c', p', by omega, by have := HNI.out; omega, by first | rfl | simp, rfl, hide ⟨HR3.out.1, HR3.out.2, HK.out⟩⟩
      · have hd : decide ((i : Int) < (N : Int)) = false := decide_eq_false (by omega)
        have hiN : i = ts.length := by rw [← HN.out]; omega
        have HE : Hid (StrArg wr (.slice q n cp) (ts.map (·.1)) ∧ Below w.heap.size w wr ∧ ∀ (j : Nat) (x y : ByteArray), ts[j]? = some (x, y) → y.size ≤ 2000) := hide (by
          refine ⟨?_, HR.out.2.1, fun j x y hx => HR.out.2.2 j x y (by rw [hiN]; exact (List.getElem?_eq_some_iff.1 hx).1) hx⟩
          have h1 := HR.out.1
          rw [hiN, List.take_length] at h1
          exact own_arg (B := w.heap.size) (by rw [List.length_map, ← hiN, ← hni]; exact h1))
        have hd2 : decide (i < N) = false := decide_eq_false hlt
        clear hiN HR hni hlt hig
        have C1 := hide (erightIDs_any (.slice q n cp) (ts.map (·.1)) (by rw [List.length_map, ← HN.out]; exact hl) wr HE.out.1)
        have e1 : (ts.map (·.1)).map bl = ts.map (fun x => bl x.1) := by rw [List.map_map]; rfl
        rw [e1] at C1
        clear e1
        obtain ⟨R, hR⟩ : ∃ R, R = riseI (ts.map (fun x => bl x.1)) := ⟨_, rfl⟩
        rw [← hR] at C1
        have HRR := hide hR
        clear hR
        go_wp2_with fail
        refine C1.out.mono ?_
        rintro e w4 ⟨rfl, hb4⟩
        have HB4 := hide (bel2 HE.out.2.1 hb4)
        clear hb4 C1
        go_wp2_with fail
        go_ret
        exact ⟨⟨R, rfl, ⟨fun h => ⟨by rw [← HRR.out]; exact h, HE.out.2.2⟩, fun h => by rw [HRR.out]; exact h.1⟩⟩, HB4.out⟩
end Go.Proofs.YtmogplecohkjcaaGreatDoor

namespace Go.Proofs.YtmogplecohkjcaaGreatDoor
open Go.RowKit
open Utf1
open Pol8 hiding text right Right
open Msg15

/-- A message's value, by its cells. -/
abbrev mval (k f t e : Int) (vi vp : Value) (p : Pol) (v1 v2 v3 v4 v5 : Value) : Value := .agg #[.int .i64 k, .int .i64 f, .int .i64 t, .int .i64 e, vi, vp, .int .i64 p.ep, v1, v2, v3, v4, v5, .int .i64 p.dp, .int .i64 p.nd, .int .i64 p.bt]
theorem raw_iff {ts : List (ByteArray × ByteArray)} {ps : List (L × L)} (h : ps = ts.map (fun x => (bl x.1, bl x.2))) : (∀ (j : Nat) (x y : ByteArray), ts[j]? = some (x, y) → y.size ≤ 2000) ↔ ∀ p ∈ ps, p.2.length ≤ 2000 := by
  subst h
  constructor
  · intro h p hp
    obtain ⟨⟨x, y⟩, hx, rfl⟩ := List.mem_map.1 hp
    obtain ⟨j, hj, e⟩ := List.mem_iff_getElem.1 hx
    have := h j x y (by rw [List.getElem?_eq_getElem hj, e])
    show (bl y).length ≤ 2000
    rw [bl_len]
    exact this
  · intro h j x y hx
    have := h (bl x, bl y) (List.mem_map.2 ⟨(x, y), List.mem_of_getElem? hx, rfl⟩)
    have h2 : (bl y).length ≤ 2000 := this
    rw [bl_len] at h2
    exact h2
/-- A Boolean that says whether something holds. -/
def BoolOf (T : Prop) (e : Ending) : Prop := ∃ b : Bool, e = .returned (.bool b) ∧ (b = true ↔ T)
theorem boolOf_false {T : Prop} (h : ¬ T) : BoolOf T (.returned (.bool false)) := ⟨false, rfl, ⟨fun h => (by cases h), fun h' => absurd h' h⟩⟩
theorem boolOf_true {T : Prop} (h : T) : BoolOf T (.returned (.bool true)) := ⟨true, rfl, ⟨fun _ => h, fun _ => rfl⟩⟩
theorem riseI_nil : riseI [] = true := by decide
/-- Right, kind by kind, as it is asked. -/
theorem right_kind (k f t e : Int) (ids : List L) (ps : List (L × L)) (p : Pol) (a : 0 ≤ f ∧ f ≤ 5 ∧ 0 ≤ t ∧ t ≤ 5 ∧ f ≠ t ∧ 0 ≤ e ∧ e ≤ 1000000) :
    MRight ⟨k, f, t, e, ids, ps, p⟩ ↔ ((k = 1 ∧ riseI ids = true ∧ ps = [] ∧ p = Pol.zero) ∨ (k = 2 ∧ e = 0 ∧ ids = [] ∧ (riseI (ps.map (·.1)) = true ∧ ∀ q ∈ ps, q.2.length ≤ 2000) ∧ p = Pol.zero) ∨ (k = 3 ∧ e = 0 ∧ ids = [] ∧ ps = [] ∧ Pol8.right p = true) ∨ (k = 4 ∧ ids = [] ∧ ps = [] ∧ p = Pol.zero)) := by
  obtain ⟨a1, a2, a3, a4, a5, a6, a7⟩ := a
  constructor
  · intro h
    rcases kinds h with hk | hk | hk | hk
    · exact .inl ⟨hk, h.rids, h.posts (by omega), h.pol (by omega)⟩
    · exact .inr (.inl ⟨hk, h.noep (.inl hk), h.ids (by omega), ⟨h.rposts, h.raws⟩, h.pol (by omega)⟩)
    · exact .inr (.inr (.inl ⟨hk, h.noep (.inr hk), h.ids (by omega), h.posts (by omega), h.rpol hk⟩))
    · exact .inr (.inr (.inr ⟨hk, h.ids (by omega), h.posts (by omega), h.pol (by omega)⟩))
  · rintro (⟨rfl, h1, rfl, rfl⟩ | ⟨rfl, rfl, rfl, ⟨h1, h2⟩, rfl⟩ | ⟨rfl, rfl, rfl, rfl, h1⟩ | ⟨rfl, rfl, rfl, rfl⟩)
    · exact ⟨⟨a1, a2⟩, ⟨a3, a4⟩, a5, ⟨a6, a7⟩, ⟨by simp, by simp⟩, fun h => absurd rfl h, fun _ => rfl, fun _ => rfl, fun h => (by rcases h with h | h <;> cases h), fun h => (by cases h), h1, riseI_nil, fun q hq => (by cases hq)⟩
    · exact ⟨⟨a1, a2⟩, ⟨a3, a4⟩, a5, ⟨a6, a7⟩, ⟨by simp, by simp⟩, fun _ => rfl, fun h => absurd rfl h, fun _ => rfl, fun _ => rfl, fun h => (by cases h), riseI_nil, h1, h2⟩
    · exact ⟨⟨a1, a2⟩, ⟨a3, a4⟩, a5, ⟨a6, a7⟩, ⟨by simp, by simp⟩, fun _ => rfl, fun _ => rfl, fun h => absurd rfl h, fun _ => rfl, fun _ => h1, riseI_nil, riseI_nil, fun q hq => (by cases hq)⟩
    · exact ⟨⟨a1, a2⟩, ⟨a3, a4⟩, a5, ⟨a6, a7⟩, ⟨by simp, by simp⟩, fun _ => rfl, fun _ => rfl, fun _ => rfl, fun h => (by rcases h with h | h <;> cases h), fun h => (by cases h), riseI_nil, riseI_nil, fun q hq => (by cases hq)⟩

set_option maxRecDepth 100000 in
set_option maxHeartbeats 16000000 in
theorem eright_any (k f t e : Int) (vi vp : Value) (ids : List ByteArray) (ts : List (ByteArray × ByteArray)) (v1 v2 v3 v4 v5 : Value) (p : Pol) (l1 l2 l3 l4 l5 : List ByteArray) (w : World) (hi : StrArg w vi ids) (hp : PostRow w vp ts) (hv : PolV w v1 v2 v3 v4 v5 p l1 l2 l3 l4 l5) (hf : fits p) (hli : ids.length ≤ 100000) (hlp : ts.length ≤ 100000) (m : Ms) (hm : m = ⟨k, f, t, e, ids.map bl, ts.map (fun x => (bl x.1, bl x.2)), p⟩) :
    Calls Tryz.prog 25 #[mval k f t e vi vp p v1 v2 v3 v4 v5] w fun e w' => BoolOf (MRight m) e ∧ Below w.heap.size w w' := by
  obtain ⟨A, hA⟩ : ∃ A : Array Value, A = #[.int .i64 k, .int .i64 f, .int .i64 t, .int .i64 e, vi, vp, .int .i64 p.ep, v1, v2, v3, v4, v5, .int .i64 p.dp, .int .i64 p.nd, .int .i64 p.bt] := ⟨_, rfl⟩
  obtain ⟨w1, hw1⟩ : ∃ w1, w1 = w.alloc (.cells A 35) := ⟨_, rfl⟩
  have HN : Hid (MBox w A w1) := hide (by rw [hw1]; exact ⟨new_block _ _ _, bel_alloc (Below.refl _ _) _⟩)
  have y0 := HN.out.cell 0 (.int .i64 k) (by rw [hA]; rfl)
  have y1 := HN.out.cell 1 (.int .i64 f) (by rw [hA]; rfl)
  have y2 := HN.out.cell 2 (.int .i64 t) (by rw [hA]; rfl)
  have y3 := HN.out.cell 3 (.int .i64 e) (by rw [hA]; rfl)
  have y4 := HN.out.cell 4 vi (by rw [hA]; rfl)
  have y5 := HN.out.cell 5 vp (by rw [hA]; rfl)
  have HI := hide (hi.below HN.out.2)
  have HP := hide (hp.below HN.out.2)
  have HV := hide (hv.below HN.out.2)
  have HM := hide hm
  clear hm
  have HZ : Hid (∀ wx, MBox w A wx → wx.cell? ⟨w.heap.size, 6, none⟩ = some (.int .i64 p.ep) ∧ wx.cell? ⟨w.heap.size, 7, none⟩ = some v1 ∧ wx.cell? ⟨w.heap.size, 8, none⟩ = some v2 ∧ wx.cell? ⟨w.heap.size, 9, none⟩ = some v3 ∧ wx.cell? ⟨w.heap.size, 10, none⟩ = some v4 ∧ wx.cell? ⟨w.heap.size, 11, none⟩ = some v5 ∧ wx.cell? ⟨w.heap.size, 12, none⟩ = some (.int .i64 p.dp) ∧ wx.cell? ⟨w.heap.size, 13, none⟩ = some (.int .i64 p.nd) ∧ wx.cell? ⟨w.heap.size, 14, none⟩ = some (.int .i64 p.bt)) := hide (fun wx h => by
    subst hA
    exact ⟨h.cell 6 _ rfl, h.cell 7 _ rfl, h.cell 8 _ rfl, h.cell 9 _ rfl, h.cell 10 _ rfl, h.cell 11 _ rfl, h.cell 12 _ rfl, h.cell 13 _ rfl, h.cell 14 _ rfl⟩)
  obtain ⟨pi, ci, rfl, -, -⟩ := id hi
  obtain ⟨pp, cp, rfl, -, -, -⟩ := id hp
  have HLI := hide hli
  have HLP := hide hlp
  have HFT := hide hf
  have HA0 : Hid (∀ wx, MBox w A wx → wx.cell? ⟨w.heap.size, 0, none⟩ = some (.int .i64 k) ∧ wx.cell? ⟨w.heap.size, 3, none⟩ = some (.int .i64 e) ∧ wx.cell? ⟨w.heap.size, 4, none⟩ = some (.slice pi ids.length ci) ∧ wx.cell? ⟨w.heap.size, 5, none⟩ = some (.slice pp ts.length cp)) := hide (fun wx h => by
    subst hA
    exact ⟨h.cell 0 _ rfl, h.cell 3 _ rfl, h.cell 4 _ rfl, h.cell 5 _ rfl⟩)
  rw [hA] at hw1
  clear hv hA hi hp hf
  obtain ⟨N, hN⟩ : ∃ N, N = ids.length := ⟨_, rfl⟩
  obtain ⟨M, hM⟩ : ∃ M, M = ts.length := ⟨_, rfl⟩
  rw [← hN, ← hM]
  rw [← hN] at HI y4 hw1 hli HA0
  rw [← hM] at HP y5 hw1 hlp HA0
  have HA3 : Hid (∀ wx, MBox w A wx → wx.cell? ⟨w.heap.size, 3, none⟩ = some (.int .i64 e) ∧ wx.cell? ⟨w.heap.size, 4, none⟩ = some (.slice pi N ci) ∧ wx.cell? ⟨w.heap.size, 5, none⟩ = some (.slice pp M cp)) := hide (fun wx h => (HA0.out wx h).2)
  have HNN : Hid (N = 0 ↔ ids.map bl = []) := hide (by rw [hN]; cases ids <;> simp)
  have HMM : Hid (M = 0 ↔ ts.map (fun x => (bl x.1, bl x.2)) = []) := hide (by rw [hM]; cases ts <;> simp)
  have CI : Hid (∀ wx, Below w1.heap.size w1 wx → Calls Tryz.prog 36 #[.slice pi N ci] wx fun e w' => e = .returned (.bool (riseI (ids.map bl))) ∧ Below wx.heap.size wx w') := hide (fun wx h => erightIDs_any _ ids HLI.out wx (HI.out.below h))
  have CPo : Hid (∀ wx, Below w1.heap.size w1 wx → Calls Tryz.prog 37 #[.slice pp M cp] wx fun e w' => (∃ b : Bool, e = .returned (.bool b) ∧ (b = true ↔ (riseI (ts.map (fun x => bl x.1)) = true ∧ ∀ (j : Nat) (x y : ByteArray), ts[j]? = some (x, y) → y.size ≤ 2000))) ∧ Below wx.heap.size wx w') := hide (fun wx h => erightPosts_any _ ts HLP.out wx (HP.out.below h))
  have CR : Hid (∀ wx, Below w1.heap.size w1 wx → Calls Tryz.prog 38 #[pval p v1 v2 v3 v4 v5] wx fun e w' => e = .returned (.bool (Pol8.right p)) ∧ Below wx.heap.size wx w') := hide (fun wx h => pright_any v1 v2 v3 v4 v5 p l1 l2 l3 l4 l5 wx (HV.out.below h) HFT.out)
  have CZ : Hid (∀ wx, Below w1.heap.size w1 wx → Calls Tryz.prog 35 #[pval p v1 v2 v3 v4 v5] wx fun e w' => (∃ b : Bool, e = .returned (.bool b) ∧ (b = true ↔ p = Pol.zero)) ∧ Below wx.heap.size wx w') := hide (fun wx h => eisZero_any v1 v2 v3 v4 v5 p l1 l2 l3 l4 l5 wx (HV.out.below h) HFT.out)
  have HRI : Hid (riseI (ts.map (fun x => bl x.1)) = riseI ((ts.map (fun x => (bl x.1, bl x.2))).map (·.1))) := hide (by rw [List.map_map]; rfl)
  have HRW := hide (raw_iff (ts := ts) rfl)
  clear hN hM HI HP HV HLI HLP HFT
  obtain ⟨IL, hIL⟩ : ∃ x, x = ids.map bl := ⟨_, rfl⟩
  obtain ⟨PL, hPL⟩ : ∃ x, x = ts.map (fun x => (bl x.1, bl x.2)) := ⟨_, rfl⟩
  rw [← hIL] at HM HNN CI
  rw [← hPL] at HM HMM HRI HRW
  rw [HRI.out] at CPo
  have HRG : Hid ((0 ≤ f ∧ f ≤ 5 ∧ 0 ≤ t ∧ t ≤ 5 ∧ f ≠ t ∧ 0 ≤ e ∧ e ≤ 1000000) → (MRight m ↔ ((k = 1 ∧ riseI IL = true ∧ M = 0 ∧ p = Pol.zero) ∨ (k = 2 ∧ e = 0 ∧ N = 0 ∧ (riseI (PL.map (·.1)) = true ∧ ∀ (j : Nat) (x y : ByteArray), ts[j]? = some (x, y) → y.size ≤ 2000) ∧ p = Pol.zero) ∨ (k = 3 ∧ e = 0 ∧ N = 0 ∧ M = 0 ∧ Pol8.right p = true) ∨ (k = 4 ∧ N = 0 ∧ M = 0 ∧ p = Pol.zero)))) := hide (fun a => by
    rw [HM.out, HNN.out, HMM.out, HRW.out]
    exact right_kind k f t e IL PL p a)
  have HRF : Hid (MRight m → (0 ≤ f ∧ f ≤ 5 ∧ 0 ≤ t ∧ t ≤ 5 ∧ f ≠ t ∧ 0 ≤ e ∧ e ≤ 1000000)) := hide (fun h => by
    rw [HM.out] at h
    exact ⟨h.fr.1, h.fr.2, h.to.1, h.to.2, h.ne, h.ep.1, h.ep.2⟩)
  clear hIL hPL HM HNN HMM HRI HRW
  obtain ⟨TM, hTM⟩ : ∃ x, x = MRight m := ⟨_, rfl⟩
  rw [← hTM] at HRG HRF ⊢
  obtain ⟨rI, hrI⟩ : ∃ x, x = riseI IL := ⟨_, rfl⟩
  rw [← hrI] at HRG CI
  obtain ⟨TP, hTP⟩ : ∃ x, x = (riseI (PL.map (·.1)) = true ∧ ∀ (j : Nat) (x y : ByteArray), ts[j]? = some (x, y) → y.size ≤ 2000) := ⟨_, rfl⟩
  rw [← hTP] at HRG CPo
  obtain ⟨TZ, hTZ⟩ : ∃ x, x = (p = Pol.zero) := ⟨_, rfl⟩
  rw [← hTZ] at HRG CZ
  obtain ⟨rP, hrP⟩ : ∃ x, x = Pol8.right p := ⟨_, rfl⟩
  rw [← hrP] at HRG CR
  clear hTM hrI hTP hTZ hrP
  go_enter Tryz.func25, Tryz.ntmps25
  go_upto_region 1 with fail
  rw [← hw1]
  clear hw1
  have CN := hide (fun n => eisNode_any n w1)
  have HX : Hid (MBox w A w1) := HN
  by_cases cf : 0 ≤ f ∧ f ≤ 5
  rotate_left
  · have df : decide (0 ≤ f ∧ f ≤ 5) = false := decide_eq_false cf
    have HF : Hid (¬ TM) := hide (fun h => cf ⟨(HRF.out h).1, (HRF.out h).2.1⟩)
    have C1 := hide (CN.out f)
    rw [df] at C1
    clear df cf CN
    go_wp2_with fail
    refine C1.out.mono ?_
    rintro e' w' ⟨rfl, hw2⟩
    replace hw2 := hw2.symm
    subst hw2
    go_wp2_with fail
    go_ret
    exact ⟨boolOf_false HF.out, HX.out.2⟩
  by_cases ct : 0 ≤ t ∧ t ≤ 5
  rotate_left
  · have df : decide (0 ≤ f ∧ f ≤ 5) = true := decide_eq_true cf
    have dt : decide (0 ≤ t ∧ t ≤ 5) = false := decide_eq_false ct
    have HF : Hid (¬ TM) := hide (fun h => ct ⟨(HRF.out h).2.2.1, (HRF.out h).2.2.2.1⟩)
    have C1 := hide (CN.out f)
    have C2 := hide (CN.out t)
    rw [df] at C1
    rw [dt] at C2
    clear df dt cf ct CN
    go_wp2_with fail
    refine C1.out.mono ?_
    rintro e' w' ⟨rfl, hw2⟩
    replace hw2 := hw2.symm
    subst hw2
    go_wp2_with fail
    refine C2.out.mono ?_
    rintro e' w' ⟨rfl, hw2⟩
    replace hw2 := hw2.symm
    subst hw2
    go_wp2_with fail
    go_ret
    exact ⟨boolOf_false HF.out, HX.out.2⟩
  have df : decide (0 ≤ f ∧ f ≤ 5) = true := decide_eq_true cf
  have dt : decide (0 ≤ t ∧ t ≤ 5) = true := decide_eq_true ct
  have C1 := hide (CN.out f)
  have C2 := hide (CN.out t)
  rw [df] at C1
  rw [dt] at C2
  have HCF := hide cf
  have HCT := hide ct
  clear df dt cf ct CN
  go_wp2_with fail
  refine C1.out.mono ?_
  rintro e' w' ⟨rfl, hw2⟩
  replace hw2 := hw2.symm
  subst hw2
  go_wp2_with fail
  refine C2.out.mono ?_
  rintro e' w' ⟨rfl, hw2⟩
  replace hw2 := hw2.symm
  subst hw2
  clear C1 C2
  by_cases cn : f = t
  · have dn : (f == t) = true := by simp [cn]
    have HF : Hid (¬ TM) := hide (fun h => (HRF.out h).2.2.2.2.1 cn)
    clear cn
    go_wp2_with fail
    go_ret
    exact ⟨boolOf_false HF.out, HX.out.2⟩
  have dn : (f == t) = false := by simp [cn]
  by_cases ce : e < 0
  · have de : decide (e < 0) = true := decide_eq_true ce
    have HF : Hid (¬ TM) := hide (fun h => by have := (HRF.out h).2.2.2.2.2.1; omega)
    clear cn ce
    go_wp2_with fail
    go_ret
    exact ⟨boolOf_false HF.out, HX.out.2⟩
  have de : decide (e < 0) = false := decide_eq_false ce
  by_cases cg : 1000000 < e
  · have dg : decide (1000000 < e) = true := decide_eq_true cg
    have HF : Hid (¬ TM) := hide (fun h => by have := (HRF.out h).2.2.2.2.2.2; omega)
    clear cn ce cg
    go_wp2_with fail
    go_ret
    exact ⟨boolOf_false HF.out, HX.out.2⟩
  have dg : decide (1000000 < e) = false := decide_eq_false cg
  have HB3 : Hid (∀ wx, MBox w A wx → wx.cell? ⟨w.heap.size, 3, none⟩ = some (.int .i64 e) ∧ wx.cell? ⟨w.heap.size, 4, none⟩ = some (.slice pi N ci) ∧ wx.cell? ⟨w.heap.size, 5, none⟩ = some (.slice pp M cp)) := HA3
  have HRK := hide (HRG.out ⟨HCF.out.1, HCF.out.2, HCT.out.1, HCT.out.2, cn, by omega, by omega⟩)
  clear cn ce cg HRG HRF HCF HCT
  obtain ⟨Bo, hBo⟩ : ∃ Bo : World → Prop, Bo = fun wx => MBox w A wx ∧ Below w1.heap.size w1 wx := ⟨_, rfl⟩
  have HBK : Hid (∀ wx wy, Bo wx → Below wx.heap.size wx wy → Bo wy) := hide (by
    rw [hBo]
    exact fun wx wy h hb => ⟨h.1.keep hb, h.2.trans (hb.mono h.2.size)⟩)
  have HBM : Hid (∀ wx, Bo wx → MBox w A wx ∧ Below w1.heap.size w1 wx) := hide (by rw [hBo]; exact fun wx h => h)
  have HB1 : Hid (Bo w1) := hide (by rw [hBo]; exact ⟨HN.out, Below.refl _ _⟩)
  clear hBo
  have SK : Hid (∀ wx, Bo wx → wx.cell? ⟨w.heap.size, 3, none⟩ = some (.int .i64 e) ∧ wx.cell? ⟨w.heap.size, 4, none⟩ = some (.slice pi N ci) ∧ wx.cell? ⟨w.heap.size, 5, none⟩ = some (.slice pp M cp) ∧ wx.cell? ⟨w.heap.size, 6, none⟩ = some (.int .i64 p.ep) ∧ wx.cell? ⟨w.heap.size, 7, none⟩ = some v1 ∧ wx.cell? ⟨w.heap.size, 8, none⟩ = some v2 ∧ wx.cell? ⟨w.heap.size, 9, none⟩ = some v3 ∧ wx.cell? ⟨w.heap.size, 10, none⟩ = some v4 ∧ wx.cell? ⟨w.heap.size, 11, none⟩ = some v5 ∧ wx.cell? ⟨w.heap.size, 12, none⟩ = some (.int .i64 p.dp) ∧ wx.cell? ⟨w.heap.size, 13, none⟩ = some (.int .i64 p.nd) ∧ wx.cell? ⟨w.heap.size, 14, none⟩ = some (.int .i64 p.bt) ∧ Hid (Bo wx)) := hide (fun wx h => by
    obtain ⟨a6, a7, a8, a9, a10, a11, a12, a13, a14⟩ := HZ.out wx (HBM.out wx h).1
    exact ⟨(HB3.out wx (HBM.out wx h).1).1, (HB3.out wx (HBM.out wx h).1).2.1, (HB3.out wx (HBM.out wx h).1).2.2, a6, a7, a8, a9, a10, a11, a12, a13, a14, h⟩)
  have SB : Hid (∀ wx, (wx.cell? ⟨w.heap.size, 3, none⟩ = some (.int .i64 e) ∧ wx.cell? ⟨w.heap.size, 4, none⟩ = some (.slice pi N ci) ∧ wx.cell? ⟨w.heap.size, 5, none⟩ = some (.slice pp M cp) ∧ wx.cell? ⟨w.heap.size, 6, none⟩ = some (.int .i64 p.ep) ∧ wx.cell? ⟨w.heap.size, 7, none⟩ = some v1 ∧ wx.cell? ⟨w.heap.size, 8, none⟩ = some v2 ∧ wx.cell? ⟨w.heap.size, 9, none⟩ = some v3 ∧ wx.cell? ⟨w.heap.size, 10, none⟩ = some v4 ∧ wx.cell? ⟨w.heap.size, 11, none⟩ = some v5 ∧ wx.cell? ⟨w.heap.size, 12, none⟩ = some (.int .i64 p.dp) ∧ wx.cell? ⟨w.heap.size, 13, none⟩ = some (.int .i64 p.nd) ∧ wx.cell? ⟨w.heap.size, 14, none⟩ = some (.int .i64 p.bt) ∧ Hid (Bo wx)) → Bo wx) := hide (fun wx h => h.2.2.2.2.2.2.2.2.2.2.2.2)
  have CZ2 : Hid (∀ wx, Bo wx → Calls Tryz.prog 35 #[pval p v1 v2 v3 v4 v5] wx fun e w' => (∃ b : Bool, e = .returned (.bool b) ∧ (b = true ↔ TZ)) ∧ Bo w') := hide (fun wx h => (CZ.out wx (HBM.out wx h).2).mono fun e w' ⟨h1, h2⟩ => ⟨h1, HBK.out _ _ h h2⟩)
  have CI2 : Hid (∀ wx, Bo wx → Calls Tryz.prog 36 #[.slice pi N ci] wx fun e w' => e = .returned (.bool rI) ∧ Bo w') := hide (fun wx h => (CI.out wx (HBM.out wx h).2).mono fun e w' ⟨h1, h2⟩ => ⟨h1, HBK.out _ _ h h2⟩)
  have CP2 : Hid (∀ wx, Bo wx → Calls Tryz.prog 37 #[.slice pp M cp] wx fun e w' => (∃ b : Bool, e = .returned (.bool b) ∧ (b = true ↔ TP)) ∧ Bo w') := hide (fun wx h => (CPo.out wx (HBM.out wx h).2).mono fun e w' ⟨h1, h2⟩ => ⟨h1, HBK.out _ _ h h2⟩)
  have CR2 : Hid (∀ wx, Bo wx → Calls Tryz.prog 38 #[pval p v1 v2 v3 v4 v5] wx fun e w' => e = .returned (.bool rP) ∧ Bo w') := hide (fun wx h => (CR.out wx (HBM.out wx h).2).mono fun e w' ⟨h1, h2⟩ => ⟨h1, HBK.out _ _ h h2⟩)
  clear CZ CI CPo CR
  go_wp2_with fail
  clear y0 y1 y2 y3 y4 y5 dn de dg
  go_region_held3 (fun wx => (wx.cell? ⟨w.heap.size, 3, none⟩ = some (.int .i64 e) ∧ wx.cell? ⟨w.heap.size, 4, none⟩ = some (.slice pi N ci) ∧ wx.cell? ⟨w.heap.size, 5, none⟩ = some (.slice pp M cp) ∧ wx.cell? ⟨w.heap.size, 6, none⟩ = some (.int .i64 p.ep) ∧ wx.cell? ⟨w.heap.size, 7, none⟩ = some v1 ∧ wx.cell? ⟨w.heap.size, 8, none⟩ = some v2 ∧ wx.cell? ⟨w.heap.size, 9, none⟩ = some v3 ∧ wx.cell? ⟨w.heap.size, 10, none⟩ = some v4 ∧ wx.cell? ⟨w.heap.size, 11, none⟩ = some v5 ∧ wx.cell? ⟨w.heap.size, 12, none⟩ = some (.int .i64 p.dp) ∧ wx.cell? ⟨w.heap.size, 13, none⟩ = some (.int .i64 p.nd) ∧ wx.cell? ⟨w.heap.size, 14, none⟩ = some (.int .i64 p.bt) ∧ Hid (Bo wx)))
    (first | exact SK.out _ (HBK.out _ _ HB1.out ((Below.refl _ _).drew)) | exact SK.out _ (by assumption))
    (first | (go_at_call 35; refine (CZ2.out _ (SB.out _ (by assumption))).mono ?_; rintro e' w3 ⟨⟨bz, rfl, hbz⟩, hB3⟩))
  have HB4 := hide (SB.out _ (by assumption))
  have HBZ := hide hbz
  clear hbz CZ2
  generalize hbe : (e == 0) = be
  generalize hbn : ((N : Int) == 0) = bn
  generalize hbm : ((M : Int) == 0) = bm
  have HBE : Hid (be = true ↔ e = 0) := hide (by rw [← hbe]; simp)
  have HBN : Hid (bn = true ↔ N = 0) := hide (by rw [← hbn]; simp)
  have HBM2 : Hid (bm = true ↔ M = 0) := hide (by rw [← hbm]; simp)
  clear hbe hbn hbm
  by_cases k1 : k = 1
  · subst k1
    obtain ⟨y0, y3, y4, y5⟩ := HA0.out _ (HBM.out _ HB4.out).1
    go_wp2_with fail
    refine (CI2.out _ HB4.out).mono ?_
    rintro e' w5 ⟨rfl, hB5⟩
    have HB5 := hide hB5
    clear hB5
    cases hrI : rI with
    | false =>
      have HF : Hid (¬ TM) := hide (fun h => by
        rcases HRK.out.1 h with ⟨_, h_rI, h_bm, h_bz⟩ | ⟨hk, _⟩ | ⟨hk, _⟩ | ⟨hk, _⟩
        · rw [hrI] at h_rI; cases h_rI
        · exact absurd hk (by decide)
        · exact absurd hk (by decide)
        · exact absurd hk (by decide))
      subst hrI
      go_wp2_with fail
      go_ret
      exact ⟨boolOf_false HF.out, (HBM.out _ HB5.out).1.2⟩
    | true =>
      have F_rI : Hid (rI = true) := hide hrI
      subst hrI
      cases hbm : bm with
      | false =>
        have HF : Hid (¬ TM) := hide (fun h => by
          rcases HRK.out.1 h with ⟨_, h_rI, h_bm, h_bz⟩ | ⟨hk, _⟩ | ⟨hk, _⟩ | ⟨hk, _⟩
          · have := HBM2.out.2 h_bm; rw [hbm] at this; cases this
          · exact absurd hk (by decide)
          · exact absurd hk (by decide)
          · exact absurd hk (by decide))
        subst hbm
        go_wp2_with fail
        go_ret
        exact ⟨boolOf_false HF.out, (HBM.out _ HB5.out).1.2⟩
      | true =>
        have F_bm : Hid (M = 0) := hide (HBM2.out.1 hbm)
        subst hbm
        cases hbz : bz with
        | false =>
          have HF : Hid (¬ TM) := hide (fun h => by
            rcases HRK.out.1 h with ⟨_, h_rI, h_bm, h_bz⟩ | ⟨hk, _⟩ | ⟨hk, _⟩ | ⟨hk, _⟩
            · have := HBZ.out.2 h_bz; rw [hbz] at this; cases this
            · exact absurd hk (by decide)
            · exact absurd hk (by decide)
            · exact absurd hk (by decide))
          subst hbz
          go_wp2_with fail
          go_ret
          exact ⟨boolOf_false HF.out, (HBM.out _ HB5.out).1.2⟩
        | true =>
          have F_bz : Hid (TZ) := hide (HBZ.out.1 hbz)
          subst hbz
          have HT : Hid TM := hide (HRK.out.2 (.inl ⟨by first | rfl | trivial, F_rI.out, F_bm.out, F_bz.out⟩))
          go_wp2_with fail
          go_ret
          exact ⟨boolOf_true HT.out, (HBM.out _ HB5.out).1.2⟩
  by_cases k2 : k = 2
  · subst k2
    obtain ⟨y0, y3, y4, y5⟩ := HA0.out _ (HBM.out _ HB4.out).1
    cases hbe : be with
    | false =>
      have HF : Hid (¬ TM) := hide (fun h => by
        rcases HRK.out.1 h with ⟨hk, _⟩ | ⟨_, h_be, h_bn, h_bp, h_bz⟩ | ⟨hk, _⟩ | ⟨hk, _⟩
        · exact absurd hk (by decide)
        · have := HBE.out.2 h_be; rw [hbe] at this; cases this
        · exact absurd hk (by decide)
        · exact absurd hk (by decide))
      subst hbe
      go_wp2_with fail
      go_ret
      exact ⟨boolOf_false HF.out, (HBM.out _ HB4.out).1.2⟩
    | true =>
      have F_be : Hid (e = 0) := hide (HBE.out.1 hbe)
      subst hbe
      cases hbn : bn with
      | false =>
        have HF : Hid (¬ TM) := hide (fun h => by
          rcases HRK.out.1 h with ⟨hk, _⟩ | ⟨_, h_be, h_bn, h_bp, h_bz⟩ | ⟨hk, _⟩ | ⟨hk, _⟩
          · exact absurd hk (by decide)
          · have := HBN.out.2 h_bn; rw [hbn] at this; cases this
          · exact absurd hk (by decide)
          · exact absurd hk (by decide))
        subst hbn
        go_wp2_with fail
        go_ret
        exact ⟨boolOf_false HF.out, (HBM.out _ HB4.out).1.2⟩
      | true =>
        have F_bn : Hid (N = 0) := hide (HBN.out.1 hbn)
        subst hbn
        go_wp2_with fail
        refine (CP2.out _ HB4.out).mono ?_
        rintro e' w5 ⟨⟨bp, rfl, hbp⟩, hB5⟩
        have HBP := hide hbp
        clear hbp
        have HB5 := hide hB5
        clear hB5
        cases hbp : bp with
        | false =>
          have HF : Hid (¬ TM) := hide (fun h => by
            rcases HRK.out.1 h with ⟨hk, _⟩ | ⟨_, h_be, h_bn, h_bp, h_bz⟩ | ⟨hk, _⟩ | ⟨hk, _⟩
            · exact absurd hk (by decide)
            · have := HBP.out.2 h_bp; rw [hbp] at this; cases this
            · exact absurd hk (by decide)
            · exact absurd hk (by decide))
          subst hbp
          go_wp2_with fail
          go_ret
          exact ⟨boolOf_false HF.out, (HBM.out _ HB5.out).1.2⟩
        | true =>
          have F_bp : Hid (TP) := hide (HBP.out.1 hbp)
          subst hbp
          cases hbz : bz with
          | false =>
            have HF : Hid (¬ TM) := hide (fun h => by
              rcases HRK.out.1 h with ⟨hk, _⟩ | ⟨_, h_be, h_bn, h_bp, h_bz⟩ | ⟨hk, _⟩ | ⟨hk, _⟩
              · exact absurd hk (by decide)
              · have := HBZ.out.2 h_bz; rw [hbz] at this; cases this
              · exact absurd hk (by decide)
              · exact absurd hk (by decide))
            subst hbz
            go_wp2_with fail
            go_ret
            exact ⟨boolOf_false HF.out, (HBM.out _ HB5.out).1.2⟩
          | true =>
            have F_bz : Hid (TZ) := hide (HBZ.out.1 hbz)
            subst hbz
            have HT : Hid TM := hide (HRK.out.2 (.inr (.inl ⟨by first | rfl | trivial, F_be.out, F_bn.out, F_bp.out, F_bz.out⟩)))
            go_wp2_with fail
            go_ret
            exact ⟨boolOf_true HT.out, (HBM.out _ HB5.out).1.2⟩
  by_cases k3 : k = 3
  · subst k3
    obtain ⟨y0, y3, y4, y5⟩ := HA0.out _ (HBM.out _ HB4.out).1
    obtain ⟨y6, y7, y8, y9, y10, y11, y12, y13, y14⟩ := HZ.out _ (HBM.out _ HB4.out).1
    cases hbe : be with
    | false =>
      have HF : Hid (¬ TM) := hide (fun h => by
        rcases HRK.out.1 h with ⟨hk, _⟩ | ⟨hk, _⟩ | ⟨_, h_be, h_bn, h_bm, h_rP⟩ | ⟨hk, _⟩
        · exact absurd hk (by decide)
        · exact absurd hk (by decide)
        · have := HBE.out.2 h_be; rw [hbe] at this; cases this
        · exact absurd hk (by decide))
      subst hbe
      go_wp2_with fail
      go_ret
      exact ⟨boolOf_false HF.out, (HBM.out _ HB4.out).1.2⟩
    | true =>
      have F_be : Hid (e = 0) := hide (HBE.out.1 hbe)
      subst hbe
      cases hbn : bn with
      | false =>
        have HF : Hid (¬ TM) := hide (fun h => by
          rcases HRK.out.1 h with ⟨hk, _⟩ | ⟨hk, _⟩ | ⟨_, h_be, h_bn, h_bm, h_rP⟩ | ⟨hk, _⟩
          · exact absurd hk (by decide)
          · exact absurd hk (by decide)
          · have := HBN.out.2 h_bn; rw [hbn] at this; cases this
          · exact absurd hk (by decide))
        subst hbn
        go_wp2_with fail
        go_ret
        exact ⟨boolOf_false HF.out, (HBM.out _ HB4.out).1.2⟩
      | true =>
        have F_bn : Hid (N = 0) := hide (HBN.out.1 hbn)
        subst hbn
        cases hbm : bm with
        | false =>
          have HF : Hid (¬ TM) := hide (fun h => by
            rcases HRK.out.1 h with ⟨hk, _⟩ | ⟨hk, _⟩ | ⟨_, h_be, h_bn, h_bm, h_rP⟩ | ⟨hk, _⟩
            · exact absurd hk (by decide)
            · exact absurd hk (by decide)
            · have := HBM2.out.2 h_bm; rw [hbm] at this; cases this
            · exact absurd hk (by decide))
          subst hbm
          go_wp2_with fail
          go_ret
          exact ⟨boolOf_false HF.out, (HBM.out _ HB4.out).1.2⟩
        | true =>
          have F_bm : Hid (M = 0) := hide (HBM2.out.1 hbm)
          subst hbm
          go_wp2_with fail
          refine (CR2.out _ HB4.out).mono ?_
          rintro e' w5 ⟨rfl, hB5⟩
          have HB5 := hide hB5
          clear hB5
          cases hrP : rP with
          | false =>
            have HF : Hid (¬ TM) := hide (fun h => by
              rcases HRK.out.1 h with ⟨hk, _⟩ | ⟨hk, _⟩ | ⟨_, h_be, h_bn, h_bm, h_rP⟩ | ⟨hk, _⟩
              · exact absurd hk (by decide)
              · exact absurd hk (by decide)
              · rw [hrP] at h_rP; cases h_rP
              · exact absurd hk (by decide))
            subst hrP
            go_wp2_with fail
            go_ret
            exact ⟨boolOf_false HF.out, (HBM.out _ HB5.out).1.2⟩
          | true =>
            have F_rP : Hid (rP = true) := hide hrP
            subst hrP
            have HT : Hid TM := hide (HRK.out.2 (.inr (.inr (.inl ⟨by first | rfl | trivial, F_be.out, F_bn.out, F_bm.out, F_rP.out⟩))))
            go_wp2_with fail
            go_ret
            exact ⟨boolOf_true HT.out, (HBM.out _ HB5.out).1.2⟩
  by_cases k4 : k = 4
  · subst k4
    obtain ⟨y0, y3, y4, y5⟩ := HA0.out _ (HBM.out _ HB4.out).1
    cases hbn : bn with
    | false =>
      have HF : Hid (¬ TM) := hide (fun h => by
        rcases HRK.out.1 h with ⟨hk, _⟩ | ⟨hk, _⟩ | ⟨hk, _⟩ | ⟨_, h_bn, h_bm, h_bz⟩
        · exact absurd hk (by decide)
        · exact absurd hk (by decide)
        · exact absurd hk (by decide)
        · have := HBN.out.2 h_bn; rw [hbn] at this; cases this)
      subst hbn
      go_wp2_with fail
      go_ret
      exact ⟨boolOf_false HF.out, (HBM.out _ HB4.out).1.2⟩
    | true =>
      have F_bn : Hid (N = 0) := hide (HBN.out.1 hbn)
      subst hbn
      cases hbm : bm with
      | false =>
        have HF : Hid (¬ TM) := hide (fun h => by
          rcases HRK.out.1 h with ⟨hk, _⟩ | ⟨hk, _⟩ | ⟨hk, _⟩ | ⟨_, h_bn, h_bm, h_bz⟩
          · exact absurd hk (by decide)
          · exact absurd hk (by decide)
          · exact absurd hk (by decide)
          · have := HBM2.out.2 h_bm; rw [hbm] at this; cases this)
        subst hbm
        go_wp2_with fail
        go_ret
        exact ⟨boolOf_false HF.out, (HBM.out _ HB4.out).1.2⟩
      | true =>
        have F_bm : Hid (M = 0) := hide (HBM2.out.1 hbm)
        subst hbm
        cases hbz : bz with
        | false =>
          have HF : Hid (¬ TM) := hide (fun h => by
            rcases HRK.out.1 h with ⟨hk, _⟩ | ⟨hk, _⟩ | ⟨hk, _⟩ | ⟨_, h_bn, h_bm, h_bz⟩
            · exact absurd hk (by decide)
            · exact absurd hk (by decide)
            · exact absurd hk (by decide)
            · have := HBZ.out.2 h_bz; rw [hbz] at this; cases this)
          subst hbz
          go_wp2_with fail
          go_ret
          exact ⟨boolOf_false HF.out, (HBM.out _ HB4.out).1.2⟩
        | true =>
          have F_bz : Hid (TZ) := hide (HBZ.out.1 hbz)
          subst hbz
          have HT : Hid TM := hide (HRK.out.2 (.inr (.inr (.inr ⟨by first | rfl | trivial, F_bn.out, F_bm.out, F_bz.out⟩))))
          go_wp2_with fail
          go_ret
          exact ⟨boolOf_true HT.out, (HBM.out _ HB4.out).1.2⟩
  obtain ⟨y0, y3, y4, y5⟩ := HA0.out _ (HBM.out _ HB4.out).1
  have e1 : (k == 1) = false := by simp [k1]
  have e2 : (k == 2) = false := by simp [k2]
  have e3 : (k == 3) = false := by simp [k3]
  have e4 : (k == 4) = false := by simp [k4]
  have HF : Hid (¬ TM) := hide (fun h => by
    rcases HRK.out.1 h with ⟨hk, _⟩ | ⟨hk, _⟩ | ⟨hk, _⟩ | ⟨hk, _⟩
    · exact k1 hk
    · exact k2 hk
    · exact k3 hk
    · exact k4 hk)
  clear k1 k2 k3 k4
  go_wp2_with fail
  go_ret
  exact ⟨boolOf_false HF.out, (HBM.out _ HB4.out).1.2⟩
end Go.Proofs.YtmogplecohkjcaaGreatDoor
