/-
  The document's own Stricter.
-/
import Derived.Test.YtlabdbkmlkmnkaaQ10
import Derived.Deep.RegionHeld3
namespace Go.Proofs.Ytlabdbkmlkmnkaa
open Go.RowKit
open Utf1 Pol8

theorem add_str (a b : ByteArray) (h : a.size + b.size ≤ 9223372036854775807) (w : World) : (Op.stringOp .add a b).run Try.prog w = .ok (.string (a ++ b)) w := by
  unfold Op.stringOp
  have : ¬ (((a.size + b.size : Nat) : Int) > IntKind.i64.max) := by
    show ¬ (((a.size + b.size : Nat) : Int) > 9223372036854775807)
    omega
  simp only [this, if_false]
  rfl

theorem dw_drop : ∀ (l : L) (k : Nat), (∀ j c, j < k → l[j]? = some c → c ≠ 46) → (∀ c, l[k]? = some c → c = 46) → k ≤ l.length → l.dropWhile (fun c => decide (c ≠ 46)) = l.drop k
  | [], k, _, _, hk => by
    have : k = 0 := by simpa using hk
    subst this
    rfl
  | x :: l, 0, _, h2, _ => by
    have := h2 x rfl
    rw [List.dropWhile_cons, if_neg (by rw [this]; decide)]
    rfl
  | x :: l, k + 1, h1, h2, hk => by
    have hx := h1 0 x (by omega) rfl
    rw [List.dropWhile_cons, if_pos (decide_eq_true hx), List.drop_succ_cons]
    exact dw_drop l k (fun j c hj h => h1 (j + 1) c (by omega) (by simpa using h)) (fun c h => h2 c (by simpa using h)) (by simpa using hk)
theorem star_is {y : ByteArray} {k : Nat} (h1 : ∀ j c, j < k → (bl y)[j]? = some c → c ≠ 46) (h2 : ∀ c, (bl y)[k]? = some c → c = 46) (hk : k ≤ y.size) : bl (⟨#[42]⟩ ++ y.extract k y.size) = star (bl y) := by
  rw [app_bl, extract_bl, List.take_of_length_le (by rw [List.length_drop, bl_len]; omega)]
  unfold star
  rw [dw_drop (bl y) k h1 h2 (by rw [bl_len]; exact hk)]
  rfl

set_option maxRecDepth 100000 in
set_option maxHeartbeats 32000000 in
theorem rstrict_any (v1 v2 v3 v4 v5 u1 u2 u3 u4 u5 : Value) (p q : Pol) (l1 l2 l3 l4 l5 m1 m2 m3 m4 m5 : List ByteArray) (w : World) (hv : PolV w v1 v2 v3 v4 v5 p l1 l2 l3 l4 l5) (hu : PolV w u1 u2 u3 u4 u5 q m1 m2 m3 m4 m5) (hf : fits p) (hg : fits q) :
    Calls Try.prog 40 #[.agg #[.int .i64 p.ep, v1, v2, v3, v4, v5, .int .i64 p.dp, .int .i64 p.nd, .int .i64 p.bt], .agg #[.int .i64 q.ep, u1, u2, u3, u4, u5, .int .i64 q.dp, .int .i64 q.nd, .int .i64 q.bt]] w fun e w' => e = .returned (.bool (stricter p q)) ∧ Below w.heap.size w w' := by
  obtain ⟨f1, -⟩ := fits_of hf (by simp) hv.e1
  obtain ⟨g1, -⟩ := fits_of hg (by simp) hu.e1
  obtain ⟨f2, zz⟩ := fits_of hf (by simp) hv.e2
  obtain ⟨g2, -⟩ := fits_of hg (by simp) hu.e2
  obtain ⟨f3, -⟩ := fits_of hf (by simp) hv.e3
  obtain ⟨g3, -⟩ := fits_of hg (by simp) hu.e3
  obtain ⟨f4, -⟩ := fits_of hf (by simp) hv.e4
  obtain ⟨g4, -⟩ := fits_of hg (by simp) hu.e4
  obtain ⟨f5, -⟩ := fits_of hf (by simp) hv.e5
  obtain ⟨g5, -⟩ := fits_of hg (by simp) hu.e5
  obtain ⟨A, hA⟩ : ∃ A : Array Value, A = #[.int .i64 p.ep, v1, v2, v3, v4, v5, .int .i64 p.dp, .int .i64 p.nd, .int .i64 p.bt] := ⟨_, rfl⟩
  obtain ⟨B, hB⟩ : ∃ B : Array Value, B = #[.int .i64 q.ep, u1, u2, u3, u4, u5, .int .i64 q.dp, .int .i64 q.nd, .int .i64 q.bt] := ⟨_, rfl⟩
  obtain ⟨w1, hw1⟩ : ∃ w1, w1 = (w.alloc (.cells A 30)).alloc (.cells B 30) := ⟨_, rfl⟩
  have HN : Hid (BoxQ w A B w1) := hide (by rw [hw1]; exact BoxQ.new w A B)
  have Y1 : Hid (∀ wx, BoxQ w A B wx → wx.cell? ⟨w.heap.size, 1, none⟩ = some (v1) ∧ wx.cell? ⟨w.heap.size + 1, 1, none⟩ = some (u1)) := hide (fun wx h => ⟨h.a 1 _ (by rw [hA]; rfl), h.b 1 _ (by rw [hB]; rfl)⟩)
  have Y2 : Hid (∀ wx, BoxQ w A B wx → wx.cell? ⟨w.heap.size, 2, none⟩ = some (v2) ∧ wx.cell? ⟨w.heap.size + 1, 2, none⟩ = some (u2)) := hide (fun wx h => ⟨h.a 2 _ (by rw [hA]; rfl), h.b 2 _ (by rw [hB]; rfl)⟩)
  have Y3 : Hid (∀ wx, BoxQ w A B wx → wx.cell? ⟨w.heap.size, 3, none⟩ = some (v3) ∧ wx.cell? ⟨w.heap.size + 1, 3, none⟩ = some (u3)) := hide (fun wx h => ⟨h.a 3 _ (by rw [hA]; rfl), h.b 3 _ (by rw [hB]; rfl)⟩)
  have Y4 : Hid (∀ wx, BoxQ w A B wx → wx.cell? ⟨w.heap.size, 4, none⟩ = some (v4) ∧ wx.cell? ⟨w.heap.size + 1, 4, none⟩ = some (u4)) := hide (fun wx h => ⟨h.a 4 _ (by rw [hA]; rfl), h.b 4 _ (by rw [hB]; rfl)⟩)
  have Y5 : Hid (∀ wx, BoxQ w A B wx → wx.cell? ⟨w.heap.size, 5, none⟩ = some (v5) ∧ wx.cell? ⟨w.heap.size + 1, 5, none⟩ = some (u5)) := hide (fun wx h => ⟨h.a 5 _ (by rw [hA]; rfl), h.b 5 _ (by rw [hB]; rfl)⟩)
  have Y6 : Hid (∀ wx, BoxQ w A B wx → wx.cell? ⟨w.heap.size, 6, none⟩ = some (.int .i64 p.dp) ∧ wx.cell? ⟨w.heap.size + 1, 6, none⟩ = some (.int .i64 q.dp)) := hide (fun wx h => ⟨h.a 6 _ (by rw [hA]; rfl), h.b 6 _ (by rw [hB]; rfl)⟩)
  have Y7 : Hid (∀ wx, BoxQ w A B wx → wx.cell? ⟨w.heap.size, 7, none⟩ = some (.int .i64 p.nd) ∧ wx.cell? ⟨w.heap.size + 1, 7, none⟩ = some (.int .i64 q.nd)) := hide (fun wx h => ⟨h.a 7 _ (by rw [hA]; rfl), h.b 7 _ (by rw [hB]; rfl)⟩)
  have Y8 : Hid (∀ wx, BoxQ w A B wx → wx.cell? ⟨w.heap.size, 8, none⟩ = some (.int .i64 p.bt) ∧ wx.cell? ⟨w.heap.size + 1, 8, none⟩ = some (.int .i64 q.bt)) := hide (fun wx h => ⟨h.a 8 _ (by rw [hA]; rfl), h.b 8 _ (by rw [hB]; rfl)⟩)
  have C1 : Hid (∀ wx, BoxQ w A B wx → Calls Try.prog 54 #[v1, u1] wx fun e w' => e = .returned (.bool (sub p.el q.el)) ∧ w' = wx) := hide (fun wx h => by
    have := rall_any v1 u1 l1 m1 (by omega) (by omega) wx (hv.s1.below h.2.2) (hu.s1.below h.2.2)
    rw [hv.e1, hu.e1] at this
    exact this)
  have C3 : Hid (∀ wx, BoxQ w A B wx → Calls Try.prog 54 #[v3, u3] wx fun e w' => e = .returned (.bool (sub p.sc q.sc)) ∧ w' = wx) := hide (fun wx h => by
    have := rall_any v3 u3 l3 m3 (by omega) (by omega) wx (hv.s3.below h.2.2) (hu.s3.below h.2.2)
    rw [hv.e3, hu.e3] at this
    exact this)
  have C4 : Hid (∀ wx, BoxQ w A B wx → Calls Try.prog 54 #[v4, u4] wx fun e w' => e = .returned (.bool (sub p.cl q.cl)) ∧ w' = wx) := hide (fun wx h => by
    have := rall_any v4 u4 l4 m4 (by omega) (by omega) wx (hv.s4.below h.2.2) (hu.s4.below h.2.2)
    rw [hv.e4, hu.e4] at this
    exact this)
  have C5 : Hid (∀ wx, BoxQ w A B wx → Calls Try.prog 54 #[v5, u5] wx fun e w' => e = .returned (.bool (sub p.pr q.pr)) ∧ w' = wx) := hide (fun wx h => by
    have := rall_any v5 u5 l5 m5 (by omega) (by omega) wx (hv.s5.below h.2.2) (hu.s5.below h.2.2)
    rw [hv.e5, hu.e5] at this
    exact this)
  have CH : Hid (∀ wx X, BoxQ w A B wx → Calls Try.prog 53 #[u2, .string X] wx fun e w' => e = .returned (.bool (decide (bl X ∈ q.at_))) ∧ w' = wx) := hide (fun wx X h => by
    have := rhas_any u2 m2 X (by omega) wx (hu.s2.below h.2.2)
    rw [hu.e2] at this
    exact this)
  have HL2 : Hid (∀ wx, BoxQ w A B wx → StrArg wx v2 l2) := hide (fun wx h => hv.s2.below h.2.2)
  have HE2 := hide hv.e2
  have HZ := hide zz
  have HS : Hid (stricter p q = ((l2.map bl).all (fun a => decide (a ∈ q.at_ ∨ star a ∈ q.at_)) && (sub p.el q.el && (sub p.sc q.sc && (sub p.cl q.cl && (sub p.pr q.pr && (decide (p.dp ≤ q.dp) && (decide (p.nd ≤ q.nd) && decide (p.bt ≤ q.bt))))))))) := hide (by
    unfold stricter
    rw [hv.e2]
    congr 5
    by_cases h1 : p.dp ≤ q.dp <;> by_cases h2 : p.nd ≤ q.nd <;> by_cases h3 : p.bt ≤ q.bt <;> simp [h1, h2, h3])
  obtain ⟨R, hR⟩ : ∃ R, R = stricter p q := ⟨_, rfl⟩
  rw [← hR] at HS ⊢
  clear hR
  obtain ⟨p2, c2, rfl, -, -⟩ := hv.s2
  obtain ⟨N, hNN⟩ : ∃ N, N = l2.length := ⟨_, rfl⟩
  rw [← hNN] at f2 HL2 Y2 hA ⊢
  have HNN := hide hNN
  rw [hA, hB] at hw1
  clear hv hu hf hg hA hB zz hNN
  obtain ⟨y2, y2b⟩ := Y2.out w1 HN.out
  go_enter Try.func40, Try.ntmps40
  go_upto_region 1 with fail
  rw [← hw1]
  clear hw1
  go_wp2_with fail
  clear y2 y2b
  go_loopg [5] N (fun g v wx => ∃ i : Nat, i + g = N ∧ v = .int .i64 (i : Int) ∧ Hid (BoxQ w A B wx ∧ ∀ j z, j < i → l2[j]? = some z → decide (bl z ∈ q.at_ ∨ star (bl z) ∈ q.at_) = true))
  case atStart => exact ⟨0, by omega, rfl, hide ⟨HN.out, fun j z hj => by omega⟩⟩
  case round =>
    obtain ⟨i, hi, rfl, HU⟩ := hrel
    clear HN
    by_cases hlt : i < N
    · obtain ⟨y, hge⟩ : ∃ y, l2[i]? = some y := ⟨_, List.getElem?_eq_getElem (by rw [← HNN.out]; exact hlt)⟩
      obtain ⟨y2, y2b⟩ := Y2.out wr HU.out.1
      obtain ⟨b, off, rfl, c0⟩ : ∃ b off, p2 = some ⟨b, off, none⟩ ∧ wr.cell? ⟨b, off + i, none⟩ = some (.string y) := by
        obtain ⟨p', cap', e, -, hc⟩ := HL2.out wr HU.out.1
        injection e with e1 e2 e3
        obtain ⟨b, off, e4, h⟩ := hc i y hge
        exact ⟨b, off, e1.trans e4, h⟩
      have hyz : y.size ≤ 100000 := HZ.out y (List.mem_of_getElem? hge)
      have HG := hide hge
      clear hge
      go_upto_block 2 with fail
      go_cut [7] from 20 to 31 (fun v7 wx => wx = wr ∧ ∃ k : Nat, k ≤ y.size ∧ v7 = .int .i64 (k : Int) ∧ Hid (bl (⟨#[42]⟩ ++ y.extract k y.size) = star (bl y)))
      case first =>
        go_wp2_with fail
        go_loopg [7] y.size (fun g v7 wx => wx = wr ∧ ∃ k : Nat, k + g = y.size ∧ v7 = .int .i64 (k : Int) ∧ Hid (∀ j c, j < k → (bl y)[j]? = some c → c ≠ 46))
        case atStart => exact ⟨rfl, 0, by omega, rfl, hide (fun j c hj => by omega)⟩
        case round =>
          obtain ⟨rfl, k, hk, rfl, HK⟩ := hrel
          by_cases hky : k < y.size
          · obtain ⟨c, hc⟩ := getK y k hky
            have ik := fun w => idxK hc w
            have k46 : ((c.toNat : Int) != 46) = decide (c ≠ 46) := neqK c 46 (by decide)
            have HC := hide hc
            clear hc
            by_cases h46 : c = 46
            · rw [decide_eq_false (fun e => e h46)] at k46
              have HF : Hid (bl (⟨#[42]⟩ ++ y.extract k y.size) = star (bl y)) := hide (star_is HK.out (fun d hd => by rw [HC.out] at hd; cases hd; exact h46) (by omega))
              generalize (c.toNat : Int) = z at ik k46
              clear HK HC h46
              go_wp2_with fail
              go_meet
              exact ⟨rfl, k, by omega, rfl, HF⟩
            · rw [decide_eq_true h46] at k46
              have HK2 : Hid (∀ j d, j < k + 1 → (bl y)[j]? = some d → d ≠ 46) := hide (fun j d hj hd => by
                by_cases e : j = k
                · subst e
                  rw [HC.out] at hd
                  cases hd
                  exact h46
                · exact HK.out j d (by omega) hd)
              generalize (c.toNat : Int) = z at ik k46
              clear HK HC h46
              go_wp2_with fail
              go_roundg (y.size - k - 1)
              case measure => omega
              case rel => exact ⟨rfl, k + 1, by omega, by first | rfl | simp, HK2⟩
          · have HF : Hid (bl (⟨#[42]⟩ ++ y.extract k y.size) = star (bl y)) := hide (star_is HK.out (fun d hd => by
              have := (List.getElem?_eq_some_iff.1 hd).1
              rw [bl_len] at this
              omega) (by omega))
            clear HK
            go_wp2_with fail
            go_meet
            exact ⟨rfl, k, by omega, rfl, HF⟩
      case rest =>
      obtain ⟨hwc, k, hk, rfl, HF⟩ := hcut
      subst hwc
      have Q1 := hide (fun n => CH.out (wc.drewN n) y (HU.out.1.keep (bel_drewN _ _)))
      have Q2 := hide (fun n => CH.out (wc.drewN n) (⟨#[42]⟩ ++ y.extract k y.size) (HU.out.1.keep (bel_drewN _ _)))
      rw [HF.out] at Q2
      have HXT := hide (fun n => HU.out.1.keep (bel_drewN wc n))
      have HOK : Hid (decide (bl y ∈ q.at_ ∨ star (bl y) ∈ q.at_) = true → ∀ j z, j < i + 1 → l2[j]? = some z → decide (bl z ∈ q.at_ ∨ star (bl z) ∈ q.at_) = true) := hide (fun h => upto_next (f := fun a => decide (a ∈ q.at_ ∨ star a ∈ q.at_)) HG.out h HU.out.2)
      have HNO : Hid (decide (bl y ∈ q.at_ ∨ star (bl y) ∈ q.at_) = false → R = false) := hide (fun h => by
        rw [HS.out, all_false (f := fun a => decide (a ∈ q.at_ ∨ star a ∈ q.at_)) HG.out h]
        rfl)
      have HD : Hid (decide (bl y ∈ q.at_ ∨ star (bl y) ∈ q.at_) = (decide (bl y ∈ q.at_) || decide (star (bl y) ∈ q.at_))) := hide (by
        by_cases h1 : bl y ∈ q.at_ <;> by_cases h2 : star (bl y) ∈ q.at_ <;> simp [h1, h2])
      rw [HD.out] at HOK HNO
      generalize decide (bl y ∈ q.at_) = d1 at Q1 HOK HNO
      generalize decide (star (bl y) ∈ q.at_) = d2 at Q2 HOK HNO
      clear HF HD HG c0
      have hTs : (y.extract k y.size).size ≤ 100000 := by
        rw [← bl_len, extract_bl, List.length_take, List.length_drop, bl_len]
        omega
      have aT := fun w => add_str ⟨#[42]⟩ (y.extract k y.size) (by show 1 + _ ≤ _; omega) w
      have kk0 : (0 : Int) ≤ (k : Int) := by omega
      have kk1 : (k : Int) ≤ (y.size : Int) := by omega
      cases d1 with
      | true =>
        have HU2 := hide (HOK.out rfl)
        clear HOK HNO HU Q2
        go_wp2_with fail
        go_quiet ((go_at_call 53; exact Calls.quiet_of_same (Q1.out _)))
        go_wp2_with fail
        go_roundg (N - i - 1)
        case measure => omega
        case rel => exact ⟨i + 1, by omega, by first | rfl | simp, hide ⟨HXT.out _, HU2.out⟩⟩
      | false =>
        cases d2 with
        | true =>
          have HU2 := hide (HOK.out rfl)
          clear HOK HNO HU
          go_wp2_with fail
          go_quiet (first | (go_at_call_of 53 (ByteArray.extract y k y.size); exact Calls.quiet_of_same (Q2.out _)) | (go_at_call 53; exact Calls.quiet_of_same (Q1.out _)))
          go_wp2_with fail
          go_roundg (N - i - 1)
          case measure => omega
          case rel => exact ⟨i + 1, by omega, by first | rfl | simp, hide ⟨HXT.out _, HU2.out⟩⟩
        | false =>
          have HR := hide (HNO.out rfl)
          clear HOK HNO HU
          go_wp2_with fail
          go_quiet (first | (go_at_call_of 53 (ByteArray.extract y k y.size); exact Calls.quiet_of_same (Q2.out _)) | (go_at_call 53; exact Calls.quiet_of_same (Q1.out _)))
          go_wp2_with fail
          go_ret
          rw [HR.out]
          exact ⟨rfl, (HXT.out _).2.2⟩
    · have HAT : Hid ((l2.map bl).all (fun a => decide (a ∈ q.at_ ∨ star a ∈ q.at_)) = true) := hide (all_true (f := fun a => decide (a ∈ q.at_ ∨ star a ∈ q.at_)) fun j z hj => HU.out.2 j z (by rw [← HNN.out] at hj; omega))
      rw [HAT.out, Bool.true_and] at HS
      have HB := hide HU.out.1
      have C1 := hide (C1.out wr HB.out)
      have C3 := hide (C3.out wr HB.out)
      have C4 := hide (C4.out wr HB.out)
      have C5 := hide (C5.out wr HB.out)
      obtain ⟨y1, y1b⟩ := Y1.out wr HB.out
      obtain ⟨y2, y2b⟩ := Y2.out wr HB.out
      obtain ⟨y3, y3b⟩ := Y3.out wr HB.out
      obtain ⟨y4, y4b⟩ := Y4.out wr HB.out
      obtain ⟨y5, y5b⟩ := Y5.out wr HB.out
      obtain ⟨y6, y6b⟩ := Y6.out wr HB.out
      obtain ⟨y7, y7b⟩ := Y7.out wr HB.out
      obtain ⟨y8, y8b⟩ := Y8.out wr HB.out
      clear HU HAT Y1 Y2 Y3 Y4 Y5 Y6 Y7 Y8 CH HL2 HZ HE2 HNN
      generalize sub p.el q.el = d1 at HS C1
      generalize sub p.sc q.sc = d3 at HS C3
      generalize sub p.cl q.cl = d4 at HS C4
      generalize sub p.pr q.pr = d5 at HS C5
      have e6 : Hid (∀ b, decide (p.dp ≤ q.dp) = b → decide (p.dp ≤ q.dp) = b) := hide (fun _ h => h)
      have e7 : Hid (∀ b, decide (p.nd ≤ q.nd) = b → decide (p.nd ≤ q.nd) = b) := hide (fun _ h => h)
      have e8 : Hid (∀ b, decide (p.bt ≤ q.bt) = b → decide (p.bt ≤ q.bt) = b) := hide (fun _ h => h)
      cases d1 with
      | false =>
        have HR : Hid (R = false) := hide (by rw [HS.out]; rfl)
        clear HS
        go_wp2_with fail
        refine C1.out.mono ?_
        rintro e w2 ⟨rfl, rfl⟩
        go_wp2_with fail
        go_ret
        rw [HR.out]
        exact ⟨rfl, HB.out.2.2⟩
      | true =>
        cases d3 with
        | false =>
          have HR : Hid (R = false) := hide (by rw [HS.out]; rfl)
          clear HS
          go_wp2_with fail
          refine C1.out.mono ?_
          rintro e w2 ⟨rfl, rfl⟩
          go_wp2_with fail
          refine C3.out.mono ?_
          rintro e w2 ⟨rfl, rfl⟩
          go_wp2_with fail
          go_ret
          rw [HR.out]
          exact ⟨rfl, HB.out.2.2⟩
        | true =>
          cases d4 with
          | false =>
            have HR : Hid (R = false) := hide (by rw [HS.out]; rfl)
            clear HS
            go_wp2_with fail
            refine C1.out.mono ?_
            rintro e w2 ⟨rfl, rfl⟩
            go_wp2_with fail
            refine C3.out.mono ?_
            rintro e w2 ⟨rfl, rfl⟩
            go_wp2_with fail
            refine C4.out.mono ?_
            rintro e w2 ⟨rfl, rfl⟩
            go_wp2_with fail
            go_ret
            rw [HR.out]
            exact ⟨rfl, HB.out.2.2⟩
          | true =>
            cases d5 with
            | false =>
              have HR : Hid (R = false) := hide (by rw [HS.out]; rfl)
              clear HS
              go_wp2_with fail
              refine C1.out.mono ?_
              rintro e w2 ⟨rfl, rfl⟩
              go_wp2_with fail
              refine C3.out.mono ?_
              rintro e w2 ⟨rfl, rfl⟩
              go_wp2_with fail
              refine C4.out.mono ?_
              rintro e w2 ⟨rfl, rfl⟩
              go_wp2_with fail
              refine C5.out.mono ?_
              rintro e w2 ⟨rfl, rfl⟩
              go_wp2_with fail
              go_ret
              rw [HR.out]
              exact ⟨rfl, HB.out.2.2⟩
            | true =>
              cases q6 : decide (p.dp ≤ q.dp) with
              | false =>
                have HR : Hid (R = false) := hide (by rw [HS.out, q6]; rfl)
                clear HS
                go_wp2_with fail
                refine C1.out.mono ?_
                rintro e w2 ⟨rfl, rfl⟩
                go_wp2_with fail
                refine C3.out.mono ?_
                rintro e w2 ⟨rfl, rfl⟩
                go_wp2_with fail
                refine C4.out.mono ?_
                rintro e w2 ⟨rfl, rfl⟩
                go_wp2_with fail
                refine C5.out.mono ?_
                rintro e w2 ⟨rfl, rfl⟩
                go_wp2_with fail
                go_ret
                rw [HR.out]
                exact ⟨rfl, HB.out.2.2⟩
              | true =>
                cases q7 : decide (p.nd ≤ q.nd) with
                | false =>
                  have HR : Hid (R = false) := hide (by rw [HS.out, q6, q7]; rfl)
                  clear HS
                  go_wp2_with fail
                  refine C1.out.mono ?_
                  rintro e w2 ⟨rfl, rfl⟩
                  go_wp2_with fail
                  refine C3.out.mono ?_
                  rintro e w2 ⟨rfl, rfl⟩
                  go_wp2_with fail
                  refine C4.out.mono ?_
                  rintro e w2 ⟨rfl, rfl⟩
                  go_wp2_with fail
                  refine C5.out.mono ?_
                  rintro e w2 ⟨rfl, rfl⟩
                  go_wp2_with fail
                  go_ret
                  rw [HR.out]
                  exact ⟨rfl, HB.out.2.2⟩
                | true =>
                  cases q8 : decide (p.bt ≤ q.bt) with
                  | false =>
                    have HR : Hid (R = false) := hide (by rw [HS.out, q6, q7, q8]; rfl)
                    clear HS
                    go_wp2_with fail
                    refine C1.out.mono ?_
                    rintro e w2 ⟨rfl, rfl⟩
                    go_wp2_with fail
                    refine C3.out.mono ?_
                    rintro e w2 ⟨rfl, rfl⟩
                    go_wp2_with fail
                    refine C4.out.mono ?_
                    rintro e w2 ⟨rfl, rfl⟩
                    go_wp2_with fail
                    refine C5.out.mono ?_
                    rintro e w2 ⟨rfl, rfl⟩
                    go_wp2_with fail
                    go_ret
                    rw [HR.out]
                    exact ⟨rfl, HB.out.2.2⟩
                  | true =>
                    have HR : Hid (R = true) := hide (by rw [HS.out, q6, q7, q8]; rfl)
                    clear HS
                    go_wp2_with fail
                    refine C1.out.mono ?_
                    rintro e w2 ⟨rfl, rfl⟩
                    go_wp2_with fail
                    refine C3.out.mono ?_
                    rintro e w2 ⟨rfl, rfl⟩
                    go_wp2_with fail
                    refine C4.out.mono ?_
                    rintro e w2 ⟨rfl, rfl⟩
                    go_wp2_with fail
                    refine C5.out.mono ?_
                    rintro e w2 ⟨rfl, rfl⟩
                    go_wp2_with fail
                    go_ret
                    rw [HR.out]
                    exact ⟨rfl, HB.out.2.2⟩
end Go.Proofs.Ytlabdbkmlkmnkaa
