/-
  versoref04.Light at a tree that is read alone: what it tells of a tree that is light.
-/
import Derived.Test.YtbcadeikdmlpoaaGreatDoorN0
namespace Go.Proofs.YtbcadeikdmlpoaaGreatDoor.Dm
open Go.RowKit
open Utf1

set_option maxRecDepth 100000 in
set_option maxHeartbeats 16000000 in
theorem weight_nst : ∀ (D : Nat) (w : World) (v : Value) (ns : List Nd) (dp : Nat), NAtD w D v ns → dp ≤ 81 →
    Calls Tryz.prog 12 #[v, .int .i64 (dp : Int)] w fun e w' => ∃ n : Nat, e = .returned (.int .i64 (n : Int)) ∧ n ≤ 110000 * (82 - dp) ∧ (n < 20000 → wsL ns ≤ n) ∧ Below w.heap.size w w' := by
  intro D
  induction D with
  | zero => intro w v ns dp h; exact h.elim
  | succ D0 ih =>
  intro w v ns dp hk hdp
  obtain ⟨p, c, rfl, hNm, hnode⟩ := hk
  have HNODE := hide hnode
  have HIH := hide ih
  obtain ⟨N, hN⟩ : ∃ N, N = ns.length := ⟨_, rfl⟩
  rw [← hN] at hNm ⊢
  have HN := hide hN
  clear hnode ih hN
  go_enter Tryz.func12, Tryz.ntmps12
  go_wp2_with fail
  go_loopg [5, 6] N (fun k v5 v6 wr => ∃ (j n : Nat) (d rest : List Nd), rest.length = k ∧ d.length = j ∧ j + k = N ∧ v5 = .int .i64 (n : Int) ∧ v6 = .int .i64 (j : Int) ∧ n ≤ 110000 * (82 - dp) ∧ Hid (n < 20000 → wsL d ≤ n) ∧ Hid (ns = d ++ rest) ∧ Hid (Below w.heap.size w wr))
  case atStart => exact ⟨0, 0, [], ns, HN.out.symm, rfl, by omega, rfl, rfl, by omega, hide (fun _ => Nat.le_refl _), hide rfl, hide (Below.refl _ _)⟩
  case round =>
    obtain ⟨j, n, d, rest, rfl, hdj, hjk, rfl, rfl, hnb, HW, HD, HB⟩ := hrel
    by_cases hn2 : n < 20000
    case neg =>
      have hend : n < 20000 → wsL ns ≤ n := fun h => absurd h hn2
      have HEND := hide hend
      clear hend
      by_cases hjl : j < N
      · have hd1 : decide ((j : Int) < (N : Int)) = true := decide_eq_true (by omega)
        have hd2 : decide ((n : Int) < 20000) = false := decide_eq_false (by omega)
        go_wp2_with fail
        go_ret
        exact ⟨n, rfl, hnb, HEND.out, HB.out⟩
      · have hd1 : decide ((j : Int) < (N : Int)) = false := decide_eq_false (by omega)
        go_wp2_with fail
        go_ret
        exact ⟨n, rfl, hnb, HEND.out, HB.out⟩
    case pos =>
    match rest, hjk, HD with
    | [], hjk, HD =>
      have e1 : d = ns := by
        have := HD.out
        rw [List.append_nil] at this
        exact this.symm
      simp only [List.length_nil, Nat.add_zero] at hjk
      subst hjk
      subst e1
      clear HD hdj
      go_wp2_with fail
      go_ret
      exact ⟨n, rfl, hnb, HW.out, HB.out⟩
    | nd :: rest, hjk, HD =>
      have hjN : j < N := by simp only [List.length_cons] at hjk; omega
      by_cases hd81 : 80 < dp
      · have HR : Hid ((20000 : Nat) < 20000 → wsL ns ≤ 20000) := hide (fun h => absurd h (by decide))
        clear HD HW
        go_wp2_with fail
        try rw [Exit.noGoto_ret]
        go_ret
        exact ⟨20000, rfl, by omega, HR.out, HB.out⟩
      have hge : ns[j]? = some nd := by
        rw [HD.out, List.getElem?_append_right (by omega), hdj, Nat.sub_self]
        rfl
      obtain ⟨g, off, ap, am, ac, kp, km, kc, hp, x0, x1, x2, x3, hsz, har, hkk⟩ := HNODE.out j nd hge
      subst hp
      have x0 := cell_keep x0 HB.out
      have x1 := cell_keep x1 HB.out
      have x2 := cell_keep x2 HB.out
      have x3 := cell_keep x3 HB.out
      obtain ⟨XN, hXN⟩ : ∃ X : ByteArray, X = ⟨nd.name.toArray⟩ := ⟨_, rfl⟩
      obtain ⟨XT, hXT⟩ : ∃ X : ByteArray, X = ⟨nd.text.toArray⟩ := ⟨_, rfl⟩
      rw [← hXN] at x0
      rw [← hXT] at x2
      have hNs : XN.size = nd.name.length := by rw [hXN]; rfl
      have hTs : XT.size = nd.text.length := by rw [hXT]; rfl
      have hws : wsL (d ++ [nd]) = wsL d + (1 + nd.name.length + nd.text.length + waL nd.attrs + wsL nd.kids) := by
        rw [wsL_app]
        show _ + (wsN nd + 0) = _
        rw [wsN_kids, Nat.add_zero]
      have HD2 : Hid (ns = (d ++ [nd]) ++ rest) := hide (by rw [HD.out]; simp)
      have hjk2 : j + (rest.length + 1) = N := hjk
      have hdj2 : (d ++ [nd]).length = j + 1 := by simp [hdj]
      have hns : XN.size ≤ 281474976710656 := by rw [hNs]; exact hsz.1
      have hts : XT.size ≤ 281474976710656 := by rw [hTs]; exact hsz.2
      have HKK := hide (fun wx (hx : Below w.heap.size w wx) => HIH.out wx (.slice kp km kc) nd.kids (dp + 1) (hkk.below hx) (by omega))
      have HAR := hide har
      have ham := har.1.1
      have hamb := har.1.2
      obtain ⟨m, hm⟩ : ∃ m : Nat, m = n + 1 + min XN.size 20000 + min XT.size 20000 := ⟨_, rfl⟩
      have HM1 : Hid (m < 20000 → wsL d + (1 + nd.name.length + nd.text.length) ≤ m) := hide (by
        intro h
        have := HW.out hn2
        omega)
      have hmb : m ≤ 60001 := by omega
      obtain ⟨ats, hats⟩ : ∃ ats, ats = nd.attrs := ⟨_, rfl⟩
      rw [← hats] at HAR ham hws
      have HWS := hide hws
      have HAM := hide ham
      clear hge hkk har HD hXT hXN hjk hdj hsz hws hats HIH HNODE HW ham hNs hTs
      have HMM : Hid ((n : Int) + 1 + min (XN.size : Int) 20000 + min (XT.size : Int) 20000 = (m : Int)) := hide (by omega)
      clear hm
      go_upto_region 7 with fail
      go_region
      rw [HMM.out]
      clear HMM x0 x2
      have HB2 := hide (HB.out.trans ((bel_one _).mono HB.out.size))
      have x1 : (World.drew wr).cell? _ = some (.slice ap am ac) := x1
      have x3 : (World.drew wr).cell? _ = some (.slice kp km kc) := x3
      clear HB
      generalize World.drew wr = wr at *
      go_wp2_with fail
      go_loopg [5, 7] am (fun k2 v5 v7 wq => ∃ (q n2 : Nat) (a r2 : List (List UInt8 × List UInt8)), r2.length = k2 ∧ a.length = q ∧ q + k2 = am ∧ v5 = .int .i64 (n2 : Int) ∧ v7 = .int .i64 (q : Int) ∧ n2 ≤ 60001 ∧ Hid (n2 < 20000 → wsL d + (1 + nd.name.length + nd.text.length + waL a) ≤ n2) ∧ Hid (ats = a ++ r2) ∧ Hid (Below wr.heap.size wr wq))
      case atStart => exact ⟨0, m, [], ats, HAM.out.symm, rfl, by omega, rfl, rfl, hmb, hide (fun h => by have := HM1.out h; show _ + (_ + 0) ≤ _; omega), hide rfl, hide (Below.refl _ _)⟩
      case round =>
        obtain ⟨q, n2, a, r2, rfl, haq, hqk, rfl, rfl, hn2b, HW2, HDA, HBQ⟩ := hrel
        have x1 := cell_keep x1 HBQ.out
        have x3 := cell_keep x3 HBQ.out
        have HBW := hide (bel2 HB2.out HBQ.out)
        have HKW := hide (HKK.out wr HBW.out)
        by_cases hgo : n2 < 20000 ∧ r2 ≠ []
        case neg =>
          have HW3 : Hid (n2 < 20000 → wsL d + (1 + nd.name.length + nd.text.length + waL ats) ≤ n2) := hide (by
            intro h
            have h2 : r2 = [] := Classical.byContradiction (fun h3 => hgo ⟨h, h3⟩)
            have := HW2.out h
            rw [HDA.out, h2, List.append_nil]
            exact this)
          have hcond : ¬ (q < am ∧ n2 < 20000) := by
            rintro ⟨h1, h2⟩
            apply hgo
            refine ⟨h2, ?_⟩
            intro h3
            rw [h3] at hqk
            simp at hqk
            omega
          have hfin : ∀ nk : Nat, nk ≤ 110000 * (82 - (dp + 1)) → (nk < 20000 → wsL nd.kids ≤ nk) → n2 + nk ≤ 110000 * (82 - dp) ∧ (n2 + nk < 20000 → wsL (d ++ [nd]) ≤ n2 + nk) := by
            intro nk h1 h2
            refine ⟨by omega, fun h => ?_⟩
            have e1 := HW3.out (by omega)
            have e2 := h2 (by omega)
            rw [HWS.out]
            omega
          have HFIN := hide hfin
          clear hfin HW3 HW2 HDA hgo haq HAR HM1 HWS HKK
          by_cases hq1 : q < am
          · have hq2 : ¬ n2 < 20000 := fun h => hcond ⟨hq1, h⟩
            have hd1 : decide ((q : Int) < (am : Int)) = true := decide_eq_true (by omega)
            have hd2 : decide ((n2 : Int) < 20000) = false := decide_eq_false (by omega)
            clear hcond
            go_wp2_with fail
            refine HKW.out.mono ?_
            rintro e w5 ⟨nk, rfl, hk1, hk2, hb5⟩
            have hkb : nk ≤ 9020000 := by omega
            obtain ⟨t1, t2⟩ := HFIN.out nk hk1 hk2
            have HB5 := hide (bel2 HBW.out hb5)
            have HT2 := hide t2
            clear hb5 HKW HFIN hk2 t2
            go_wp2_with fail
            go_roundg rest.length
            case measure => simp only [List.length_cons]; omega
            case rel => exact ⟨j + 1, n2 + nk, d ++ [nd], rest, rfl, hdj2, by omega, by first | rfl | simp, by first | rfl | simp, t1, HT2, HD2, HB5⟩
          · have hd1 : decide ((q : Int) < (am : Int)) = false := decide_eq_false (by omega)
            clear hcond
            go_wp2_with fail
            refine HKW.out.mono ?_
            rintro e w5 ⟨nk, rfl, hk1, hk2, hb5⟩
            have hkb : nk ≤ 9020000 := by omega
            obtain ⟨t1, t2⟩ := HFIN.out nk hk1 hk2
            have HB5 := hide (bel2 HBW.out hb5)
            have HT2 := hide t2
            clear hb5 HKW HFIN hk2 t2
            go_wp2_with fail
            go_roundg rest.length
            case measure => simp only [List.length_cons]; omega
            case rel => exact ⟨j + 1, n2 + nk, d ++ [nd], rest, rfl, hdj2, by omega, by first | rfl | simp, by first | rfl | simp, t1, HT2, HD2, HB5⟩
        case pos =>
          obtain ⟨hlt2, hr2⟩ := hgo
          match r2, hr2, hqk, HDA with
          | kv :: r2, _, hqk, HDA =>
            have hqlt : q < am := by simp only [List.length_cons] at hqk; omega
            have hd1 : decide ((q : Int) < (am : Int)) = true := decide_eq_true (by omega)
            have hd2 : decide ((n2 : Int) < 20000) = true := decide_eq_true (by omega)
            have hga : ats[q]? = some kv := by
              rw [HDA.out, List.getElem?_append_right (by omega), haq, Nat.sub_self]
              rfl
            obtain ⟨b, off2, hap, z0, z1, hz1, hz2⟩ := HAR.out.2 q kv hga
            subst hap
            have z0 := cell_keep z0 HBW.out
            have z1 := cell_keep z1 HBW.out
            obtain ⟨XA, hXA⟩ : ∃ X : ByteArray, X = ⟨kv.1.toArray⟩ := ⟨_, rfl⟩
            obtain ⟨XV, hXV⟩ : ∃ X : ByteArray, X = ⟨kv.2.toArray⟩ := ⟨_, rfl⟩
            rw [← hXA] at z0
            rw [← hXV] at z1
            have hAl : XA.size = kv.1.length := by rw [hXA]; rfl
            have hVl : XV.size = kv.2.length := by rw [hXV]; rfl
            obtain ⟨m2, hm2⟩ : ∃ m2 : Nat, m2 = n2 + 1 + min XA.size 20000 + min XV.size 20000 := ⟨_, rfl⟩
            have HMM : Hid ((n2 : Int) + 1 + min (XA.size : Int) 20000 + min (XV.size : Int) 20000 = (m2 : Int)) := hide (by omega)
            have HW3 : Hid (m2 < 20000 → wsL d + (1 + nd.name.length + nd.text.length + waL (a ++ [kv])) ≤ m2) := hide (by
              intro h
              have h1 := HW2.out hlt2
              rw [waL_app, show waL [kv] = 1 + kv.1.length + kv.2.length + 0 from rfl]
              omega)
            have hm2b : m2 ≤ 60001 := by omega
            have hxa : XA.size ≤ 281474976710656 := by rw [hAl]; exact hz1
            have hxv : XV.size ≤ 281474976710656 := by rw [hVl]; exact hz2
            have HDA2 : Hid (ats = (a ++ [kv]) ++ r2) := hide (by rw [HDA.out]; simp)
            have hqk2 : q + (r2.length + 1) = am := hqk
            have haq2 : (a ++ [kv]).length = q + 1 := by simp [haq]
            clear hga hz1 hz2 hXA hXV hAl hVl hm2 HDA HW2 hqk haq HKW HKK x3 HWS HM1 HAR
            go_upto_region 11 with fail
            go_region
            rw [HMM.out]
            clear HMM
            go_wp2_with fail
            go_roundg r2.length
            case measure => simp only [List.length_cons]; omega
            case rel => exact ⟨q + 1, m2, a ++ [kv], r2, rfl, haq2, by omega, by first | rfl | simp, by first | rfl | simp, hm2b, HW3, HDA2, hide (HBQ.out.trans ((bel_one _).mono HBQ.out.size))⟩

set_option maxRecDepth 100000 in
theorem light_nst (w : World) (v : Value) (ns : List Nd) (hk : NAt w v ns) :
    Calls Tryz.prog 7 #[v, .int .i64 0] w fun e w' => ∃ b : Bool, e = .returned (.bool b) ∧ (b = true → wsL ns < 20000) ∧ Below w.heap.size w w' := by
  obtain ⟨D, hk⟩ := hk
  have HW := hide (weight_nst D w v ns 0 hk (by decide))
  clear hk
  go_enter Tryz.func7, Tryz.ntmps7
  go_wp2_with fail
  refine HW.out.mono ?_
  rintro e w1 ⟨n, rfl, hn, h2, hb⟩
  have H2 := hide h2
  have HB := hide hb
  clear h2 hb HW
  have hn : n ≤ 9020000 := by omega
  go_wp2_with fail
  go_ret
  refine ⟨_, rfl, ?_, HB.out⟩
  intro h
  have h : (n : Int) < 20000 := of_decide_eq_true h
  have := H2.out (by omega)
  omega
end Go.Proofs.YtbcadeikdmlpoaaGreatDoor.Dm
