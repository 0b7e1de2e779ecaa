/-
  digest.Short, walked.
-/
import Derived.Test.YtddphbbmccfblaaDP2
namespace Go.Proofs.Ytddphbbmccfblaa
open Go.RowKit Go.Maps Go.Sort
open Utf1
open Pol8 hiding text right Right
open Dg16

set_option maxRecDepth 100000 in
set_option maxHeartbeats 8000000 in
theorem sizeAt_any (u : Value) (zs : List Int) (j : Nat) (w : World) (hu : IntArg w u zs) :
    Calls Try.prog 28 #[u, .int .i64 (j : Int)] w fun e w' => e = .returned (.int .i64 (sz zs j)) ∧ Below w.heap.size w w' := by
  have HU := hide hu
  obtain ⟨q, d, rfl, -⟩ := hu
  obtain ⟨M, hM⟩ : ∃ M, M = zs.length := ⟨_, rfl⟩
  rw [← hM] at HU ⊢
  have HM := hide hM
  clear hM
  go_enter Try.func28, Try.ntmps28
  by_cases hlt : j < M
  · have f1 : decide ((M : Int) ≤ (j : Int)) = false := decide_eq_false (by omega)
    have f1' : decide (M ≤ j) = false := decide_eq_false (by omega)
    have f2 : decide ((j : Int) < (M : Int)) = true := decide_eq_true (by omega)
    have hga : zs[j]? = some zs[j] := List.getElem?_eq_getElem (by have := HM.out; omega)
    have hsz : sz zs j = max zs[j] 0 := by
      unfold sz
      rw [List.getD_eq_getElem?_getD, hga]
      rfl
    rw [hsz]
    generalize zs[j] = z at hga hsz
    obtain ⟨b, o, hp, k⟩ := intArg_cell HU.out hga
    subst hp
    clear hga hsz
    go_wp2_with fail
    go_ret
    exact ⟨rfl, Below.refl _ _⟩
  · have f1 : decide ((M : Int) ≤ (j : Int)) = true := decide_eq_true (by omega)
    have f1' : decide (M ≤ j) = true := decide_eq_true (by omega)
    have hsz : sz zs j = 0 := by
      unfold sz
      rw [List.getD_eq_getElem?_getD, List.getElem?_eq_none (by have := HM.out; omega)]
      rfl
    rw [hsz]
    clear hsz
    go_wp2_with fail
    go_ret
    exact ⟨rfl, Below.refl _ _⟩
/-- So many of the first sizes are together at most a number, and no more. -/
def Fit (n : Nat) (zs : List Int) (most : Int) (k : Nat) : Prop := k ≤ n ∧ (∀ i, i < k → sumTo zs (i + 1) ≤ most) ∧ (k = n ∨ most < sumTo zs (k + 1))

set_option maxRecDepth 100000 in
set_option maxHeartbeats 8000000 in
theorem fitting_any (n : Nat) (u : Value) (zs : List Int) (most : Int) (w : World) (hn : n ≤ 1000) (hz : ∀ z ∈ zs, z ≤ 1000000) (hm : most ≤ 9223372036854775807) (hu : IntArg w u zs) :
    Calls Try.prog 24 #[.int .i64 (n : Int), u, .int .i64 most] w fun e w' => (∃ k : Nat, e = .returned (.int .i64 (k : Int)) ∧ Fit n zs most k) ∧ Below w.heap.size w w' := by
  have HU := hide hu
  have HZ := hide hz
  obtain ⟨q, d, rfl, -⟩ := hu
  obtain ⟨M, hM⟩ : ∃ M, M = zs.length := ⟨_, rfl⟩
  rw [← hM] at HU ⊢
  have HM := hide hM
  clear hM hz
  go_enter Try.func24, Try.ntmps24
  go_wp2_with fail
  go_loopg [7, 8, 9, 12] n (fun g v7 v8 v9 v12 wr => ∃ (j : Nat) (S : Int), j + g = n ∧ v12 = .int .i64 (j : Int) ∧ v7 = .int .i64 S ∧ Hid (S = most - sumTo zs j ∧ (∀ i, i < j → sumTo zs (i + 1) ≤ most) ∧ Below w.heap.size w wr))
  case atStart => exact ⟨0, most, by omega, rfl, rfl, hide ⟨by show most = most - 0; omega, fun i h => by omega, Below.refl _ _⟩⟩
  case round =>
    obtain ⟨j, S, hj, rfl, rfl, HI⟩ := hrel
    by_cases hlt : j < n
    · obtain ⟨Z, hZ⟩ : ∃ Z, Z = sz zs j := ⟨_, rfl⟩
      have hZ0 : 0 ≤ Z := by rw [hZ]; exact sz_pos _ _
      have CZ : Hid (Calls Try.prog 28 #[.slice q M d, .int .i64 (j : Int)] wr fun e w' => e = .returned (.int .i64 Z) ∧ Below wr.heap.size wr w') := hide (by
        rw [hZ]
        refine sizeAt_any _ zs j wr ?_
        exact HU.out.below HI.out.2.2)
      have HS : Hid (S = most - sumTo zs j ∧ sumTo zs (j + 1) = sumTo zs j + Z) := hide ⟨HI.out.1, by rw [hZ]; rfl⟩
      have hSm : S ≤ most := by
        have := sum_pos zs j
        have := HS.out.1
        omega
      clear hZ
      go_wp2_with fail
      refine CZ.out.mono ?_
      rintro e w2 ⟨rfl, hb2⟩
      have HB2 := hide (bel2 HI.out.2.2 hb2)
      clear hb2 CZ
      by_cases hgt : S < Z
      · have e1 : decide (S < Z) = true := decide_eq_true hgt
        have HSH : Hid (Fit n zs most j) := hide ⟨by omega, HI.out.2.1, .inr (by
          have := HS.out
          omega)⟩
        go_wp2_with fail
        go_ret
        exact ⟨⟨j, rfl, HSH.out⟩, HB2.out⟩
      · have e1 : decide (S < Z) = false := decide_eq_false hgt
        have hr0 : 0 ≤ S - Z := by omega
        have hr1 : S - Z ≤ 9223372036854775807 := by omega
        have HR2 : Hid (S - Z = most - sumTo zs (j + 1) ∧ (∀ i, i < j + 1 → sumTo zs (i + 1) ≤ most) ∧ Below w.heap.size w w2) := hide ⟨by have := HS.out; omega, fun i hi => by
          rcases Nat.lt_or_ge i j with h | h
          · exact HI.out.2.1 i h
          · have : i = j := by omega
            subst this
            have := HS.out
            omega, HB2.out⟩
        go_wp2_with fail
        go_roundg (n - (j + 1))
        case measure => omega
        case rel => exact ⟨j + 1, S - Z, by omega, by first | rfl | (push_cast; rfl), rfl, HR2⟩
    · have hjn : j = n := by omega
      subst hjn
      go_wp2_with fail
      go_ret
      exact ⟨⟨j, rfl, Nat.le_refl _, HI.out.2.1, .inl rfl⟩, HI.out.2.2⟩
theorem strArg_cut {w : World} {p : Option Addr} {n c : Nat} {ls : List ByteArray} (h : StrArg w (.slice p n c) ls) (k : Nat) (hk : k ≤ ls.length) : StrArg w (.slice p k c) (ls.take k) := by
  obtain ⟨p', c', e, h0, hc⟩ := h
  injection e with e1 e2 e3
  subst e1 e3
  refine ⟨p, c, by rw [List.length_take, Nat.min_eq_left hk], h0, fun i s hi => hc i s ?_⟩
  rw [List.getElem?_take] at hi
  by_cases hik : i < k
  · rw [if_pos hik] at hi
    exact hi
  · rw [if_neg hik] at hi
    cases hi
theorem fit_short {n : Nat} {zs : List Int} {most : Int} {k : Nat} (h : Fit n zs most k) : Sh n zs most (max k (min 1 n)) := by
  obtain ⟨h1, h2, h3⟩ := h
  rcases Nat.eq_zero_or_pos k with rfl | hk
  · rcases Nat.eq_zero_or_pos n with rfl | hn
    · exact ⟨by omega, fun i h1 h2 => by omega, .inl rfl⟩
    · have e : max 0 (min 1 n) = 1 := by omega
      rw [e]
      refine ⟨hn, fun i h1 h2 => by omega, ?_⟩
      rcases h3 with h3 | h3
      · omega
      · refine .inr ⟨by omega, ?_⟩
        have a : sumTo zs 2 = sumTo zs 1 + sz zs 1 := rfl
        have := sz_pos zs 1
        show most < sumTo zs 2
        have h3 : most < sumTo zs 1 := h3
        omega
  · have e : max k (min 1 n) = k := by omega
    rw [e]
    exact ⟨h1, fun i _ hi => h2 i hi, h3.imp id (fun h => ⟨hk, h⟩)⟩

set_option maxRecDepth 100000 in
set_option maxHeartbeats 8000000 in
theorem short_any : ShortC := by
  intro v u ls zs most w hf hz hl hm hv hu
  have HV := hide hv
  have HF := hide hf
  have CF := hide (fitting_any ls.length u zs most w hl hz.2 hm hu)
  obtain ⟨p, c, rfl, -, -⟩ := hv.1
  obtain ⟨q, d, rfl, -⟩ := hu
  have hNc := strCap_le hv
  obtain ⟨N, hN⟩ : ∃ N, N = ls.length := ⟨_, rfl⟩
  rw [← hN] at HV hl hv hNc CF ⊢
  have HN := hide hN
  clear hN hz hv hf hm
  go_enter Try.func17, Try.ntmps17
  go_wp2_with fail
  refine CF.out.mono ?_
  rintro e w1 ⟨⟨k, rfl, hk⟩, hb1⟩
  have HK := hide (fit_short hk)
  have HB1 := hide hb1
  have hkN := hk.1
  obtain ⟨m, hm⟩ : ∃ m, m = max k (min 1 N) := ⟨_, rfl⟩
  rw [← hm] at HK
  have hmN : m ≤ N := by omega
  have CO := hide (own_go (.slice p m c) (ls.take m) (by rw [List.length_take]; have := HF.out.1; omega) (fun x hx => few_big HF.out x (List.mem_of_mem_take hx)) w1 (strArg_cut (HV.out.1.below hb1) m (by have := HN.out; omega)))
  clear hk hb1 CF
  go_wp2_with fail
  have e : (max (k : Int) (min 1 (N : Int))).toNat = m := by omega
  rw [e]
  clear e hm
  refine CO.out.mono ?_
  rintro e w2 ⟨⟨v2, rfl, hs2⟩, hb2⟩
  obtain ⟨p2, c2, hv2⟩ := strArg_shape hs2
  subst hv2
  rw [List.length_take] at hs2 ⊢
  have HS := hide hs2
  have HB2 := hide (bel2 HB1.out hb2)
  clear hs2 hb2 CO
  go_wp2_with fail
  go_ret
  refine ⟨⟨_, m, rfl, HS.out, ?_⟩, HB2.out⟩
  rw [← HN.out]
  exact HK.out
end Go.Proofs.Ytddphbbmccfblaa
