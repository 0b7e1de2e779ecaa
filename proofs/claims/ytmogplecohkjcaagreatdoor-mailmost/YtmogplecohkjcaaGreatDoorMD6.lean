/-
  The document's Light of a message, walked.
-/
import Derived.Test.YtmogplecohkjcaaGreatDoorMDZ
import Derived.Test.YtmogplecohkjcaaGreatDoorQ12
namespace Go.Proofs.YtmogplecohkjcaaGreatDoor
open Go.RowKit
open Utf1
open Pol8 hiding text right Right
open Msg15

/-- What a light message holds. -/
def mSum (l : List L) : Nat := (l.map (fun s => min s.length 100000)).sum
theorem mSum_step (l : List L) (k : Nat) (s : L) (h : l[k]? = some s) : mSum (l.take (k + 1)) = mSum (l.take k) + min s.length 100000 := by
  unfold mSum
  rw [List.take_add_one, h, List.map_append, List.sum_append]
  simp

/-- What a parameter's box holds. -/
def MBox (w : World) (A : Array Value) (wx : World) : Prop := wx.heap[w.heap.size]? = some (.cells A 35 (0, 0)) ∧ Below w.heap.size w wx
theorem MBox.keep {w wx wy : World} {A : Array Value} (h : MBox w A wx) (hb : Below wx.heap.size wx wy) : MBox w A wy :=
  ⟨(hb.block _ (Array.getElem?_eq_some_iff.1 h.1).1).trans h.1, h.2.trans (hb.mono h.2.size)⟩
theorem MBox.cell {w wx : World} {A : Array Value} (h : MBox w A wx) (i : Nat) (v : Value) (hi : A[i]? = some v) : wx.cell? ⟨w.heap.size, i, none⟩ = some v := tag_cell h.1 i v hi

set_option maxRecDepth 100000 in
set_option maxHeartbeats 8000000 in
theorem mlight_any (k f t e : Int) (vi vp : Value) (ids : List ByteArray) (ts : List (ByteArray × ByteArray)) (v1 v2 v3 v4 v5 : Value) (p : Pol) (l1 l2 l3 l4 l5 : List ByteArray) (w : World) (hi : StrArg w vi ids) (hp : PostRow w vp ts) (hv : PolV w v1 v2 v3 v4 v5 p l1 l2 l3 l4 l5) :
    Calls Tryz.prog 10 #[.agg #[.int .i64 k, .int .i64 f, .int .i64 t, .int .i64 e, vi, vp, .int .i64 p.ep, v1, v2, v3, v4, v5, .int .i64 p.dp, .int .i64 p.nd, .int .i64 p.bt]] w fun e w' => (∃ b : Bool, e = .returned (.bool b) ∧ (b = true → light p ∧ ids.length ≤ 100 ∧ ts.length ≤ 100 ∧ mSum (ids.map bl) + mSum (ts.map (fun x => bl x.1)) + mSum (ts.map (fun x => bl x.2)) < 20000)) ∧ Below w.heap.size w w' := by
  obtain ⟨A, hA⟩ : ∃ A : Array Value, A = #[.int .i64 k, .int .i64 f, .int .i64 t, .int .i64 e, vi, vp, .int .i64 p.ep, v1, v2, v3, v4, v5, .int .i64 p.dp, .int .i64 p.nd, .int .i64 p.bt] := ⟨_, rfl⟩
  obtain ⟨w1, hw1⟩ : ∃ w1, w1 = w.alloc (.cells A 35) := ⟨_, rfl⟩
  have HN : Hid (MBox w A w1) := hide (by rw [hw1]; exact ⟨new_block _ _ _, bel_alloc (Below.refl _ _) _⟩)
  have y4 := HN.out.cell 4 vi (by rw [hA]; rfl)
  have y5 := HN.out.cell 5 vp (by rw [hA]; rfl)
  have HI := hide (hi.below HN.out.2)
  have HP := hide (hp.below HN.out.2)
  have HV := hide hv
  have HZ : Hid (∀ wx, MBox w A wx → wx.cell? ⟨w.heap.size, 6, none⟩ = some (.int .i64 p.ep) ∧ wx.cell? ⟨w.heap.size, 7, none⟩ = some v1 ∧ wx.cell? ⟨w.heap.size, 8, none⟩ = some v2 ∧ wx.cell? ⟨w.heap.size, 9, none⟩ = some v3 ∧ wx.cell? ⟨w.heap.size, 10, none⟩ = some v4 ∧ wx.cell? ⟨w.heap.size, 11, none⟩ = some v5 ∧ wx.cell? ⟨w.heap.size, 12, none⟩ = some (.int .i64 p.dp) ∧ wx.cell? ⟨w.heap.size, 13, none⟩ = some (.int .i64 p.nd) ∧ wx.cell? ⟨w.heap.size, 14, none⟩ = some (.int .i64 p.bt)) := hide (fun wx h => by
    subst hA
    exact ⟨h.cell 6 _ rfl, h.cell 7 _ rfl, h.cell 8 _ rfl, h.cell 9 _ rfl, h.cell 10 _ rfl, h.cell 11 _ rfl, h.cell 12 _ rfl, h.cell 13 _ rfl, h.cell 14 _ rfl⟩)
  have HA := hide hA
  obtain ⟨pi, ci, rfl, -, -⟩ := id hi
  obtain ⟨pp, cp, rfl, -, -, -⟩ := id hp
  rw [hA] at hw1
  clear hv hA hi hp
  obtain ⟨N, hN⟩ : ∃ N, N = ids.length := ⟨_, rfl⟩
  obtain ⟨M, hM⟩ : ∃ M, M = ts.length := ⟨_, rfl⟩
  rw [← hN, ← hM]
  rw [← hN] at HI y4 hw1
  rw [← hM] at HP y5 hw1
  have HNN := hide hN
  have HMM := hide hM
  clear hN hM HA
  go_enter Tryz.func10, Tryz.ntmps10
  go_upto_region 1 with fail
  rw [← hw1]
  clear hw1
  by_cases hbig : 100 < N ∨ 100 < M
  · by_cases h : 100 < N
    · have d1 : decide ((100 : Int) < (N : Int)) = true := decide_eq_true (by omega)
      go_wp2_with fail
      go_ret
      exact ⟨⟨false, rfl, fun h => by cases h⟩, HN.out.2⟩
    · have d1 : decide ((100 : Int) < (N : Int)) = false := decide_eq_false (by omega)
      have d2 : decide ((100 : Int) < (M : Int)) = true := decide_eq_true (by omega)
      go_wp2_with fail
      go_ret
      exact ⟨⟨false, rfl, fun h => by cases h⟩, HN.out.2⟩
  · have d1 : decide ((100 : Int) < (N : Int)) = false := decide_eq_false (by omega)
    have d2 : decide ((100 : Int) < (M : Int)) = false := decide_eq_false (by omega)
    go_wp2_with fail
    generalize decide ((100 : Int) < (N : Int)) = bn
    generalize decide ((100 : Int) < (M : Int)) = bm
    go_loopg [3, 4] N (fun g v3 v4 wx => wx = w1 ∧ ∃ i n : Nat, i + g = N ∧ v4 = .int .i64 (i : Int) ∧ v3 = .int .i64 (n : Int) ∧ n ≤ i * 100000 ∧ Hid (n = mSum ((ids.map bl).take i)))
    case atStart => exact ⟨rfl, 0, 0, by omega, rfl, rfl, by omega, hide rfl⟩
    case round =>
      obtain ⟨hwr, i, n, hi, rfl, rfl, hn, HK⟩ := hrel
      have hwr2 := hwr.symm
      clear hwr
      subst hwr2
      by_cases hlt : i < N
      · obtain ⟨y, hy⟩ : ∃ y, ids[i]? = some y := ⟨_, List.getElem?_eq_getElem (by rw [← HNN.out]; exact hlt)⟩
        have dlt : decide ((i : Int) < (N : Int)) = true := decide_eq_true (by omega)
        obtain ⟨b, off, rfl, c1⟩ : ∃ b off, pi = some ⟨b, off, none⟩ ∧ w1.cell? ⟨b, off + i, none⟩ = some (.string y) := by
          obtain ⟨p', cap', e, -, hc⟩ := HI.out
          injection e with e1 e2 e3
          obtain ⟨b, off, e4, h⟩ := hc i y hy
          exact ⟨b, off, e1.trans e4, h⟩
        have HK2 : Hid (∀ mm, mm = min y.size 100000 → n + mm = mSum ((ids.map bl).take (i + 1))) := hide (fun mm hmm => by
          rw [mSum_step (ids.map bl) i (bl y) (by rw [List.getElem?_map, hy]; rfl), bl_len, hmm, HK.out])
        clear hy HK
        by_cases hyz : y.size < 100000
        · have HK3 := hide (HK2.out y.size (by omega))
          clear HK2
          go_wp2_with fail
          go_roundg (N - i - 1)
          case measure => omega
          case rel => exact ⟨rfl, i + 1, n + y.size, by omega, by first | rfl | simp, by first | rfl | (simp; done) | (simp; omega), by omega, HK3⟩
        · by_cases hyw : 100000 < y.size
          · have HK3 := hide (HK2.out 100000 (by omega))
            clear HK2
            go_wp2_with fail
            go_roundg (N - i - 1)
            case measure => omega
            case rel => exact ⟨rfl, i + 1, n + 100000, by omega, by first | rfl | simp, by first | rfl | (simp; done) | (simp; omega), by omega, HK3⟩
          · have HK3 := hide (HK2.out y.size (by omega))
            clear HK2
            go_wp2_with fail
            go_roundg (N - i - 1)
            case measure => omega
            case rel => exact ⟨rfl, i + 1, n + y.size, by omega, by first | rfl | simp, by first | rfl | (simp; done) | (simp; omega), by omega, HK3⟩
      · have dlt : decide ((i : Int) < (N : Int)) = false := decide_eq_false (by omega)
        have HI2 : Hid (n = mSum (ids.map bl)) := hide (by
          have h1 : (ids.map bl).take i = ids.map bl := List.take_of_length_le (by rw [List.length_map, ← HNN.out]; omega)
          have h2 := HK.out
          rw [h1] at h2
          exact h2)
        have hn0 : n ≤ 10000000 := by omega
        clear HK HI
        go_wp2_with fail
        go_loopg [3, 5] M (fun g v3 v5 wx => ∃ j m : Nat, j + g = M ∧ v5 = .int .i64 (j : Int) ∧ v3 = .int .i64 (m : Int) ∧ n ≤ m ∧ m ≤ n + j * 200000 ∧ Hid (Below w1.heap.size w1 wx ∧ m = n + (mSum ((ts.take j).map (fun z => bl z.1)) + mSum ((ts.take j).map (fun z => bl z.2)))))
        case atStart => exact ⟨0, n, by omega, rfl, rfl, by omega, by omega, hide ⟨Below.refl _ _, rfl⟩⟩
        case round =>
          obtain ⟨j, m, hj, rfl, rfl, hm0, hm, HK⟩ := hrel
          have HB := hide HK.out.1
          have z5 := mcell_keep y5 HB.out
          by_cases hlt2 : j < M
          · have HLT := hide hlt
            clear hlt dlt
            obtain ⟨xy, hxy⟩ : ∃ y, ts[j]? = some y := ⟨_, List.getElem?_eq_getElem (by rw [← HMM.out]; exact hlt2)⟩
            obtain ⟨x, y⟩ := xy
            have dlt2 : decide ((j : Int) < (M : Int)) = true := decide_eq_true (by omega)
            obtain ⟨b, off, rfl, c1, c2⟩ : ∃ b off, pp = some ⟨b, off, none⟩ ∧ wr.cell? ⟨b, off + j * 2, none⟩ = some (.string x) ∧ wr.cell? ⟨b, off + j * 2 + 1, none⟩ = some (.string y) := by
              obtain ⟨p', cap', e, _, _, hc⟩   := HP.out.below HB.out
              injection e with e1 e2 e3
              obtain ⟨b, off, e4, h⟩ := hc j x y hxy
              exact ⟨b, off, e1.trans e4, h⟩
            have HK2 : Hid (∀ mx my, mx = min x.size 100000 → my = min y.size 100000 → m + mx + my = n + (mSum ((ts.take (j + 1)).map (fun z => bl z.1)) + mSum ((ts.take (j + 1)).map (fun z => bl z.2)))) := hide (fun mx my hx hy => by
              rw [List.map_take, List.map_take, mSum_step (ts.map (fun z => bl z.1)) j (bl x) (by rw [List.getElem?_map, hxy]; rfl), mSum_step (ts.map (fun z => bl z.2)) j (bl y) (by rw [List.getElem?_map, hxy]; rfl), bl_len, bl_len, hx, hy, HK.out.2, List.map_take, List.map_take]
              omega)
            clear hxy HK
            by_cases hzx : x.size < 100000
            · by_cases hzy : y.size < 100000
              · have HK3 := hide (HK2.out (x.size) (y.size) (by omega) (by omega))
                clear HK2
                go_wp2_with fail
                go_quiet (fail)
                go_wp2_with fail
                go_roundg (M - j - 1)
                case measure => omega
                case rel => exact ⟨j + 1, m + x.size + y.size, by omega, by first | rfl | simp, by first | rfl | (simp; done) | (simp; omega), by omega, by omega, hide ⟨HB.out.trans ((bel_drewN wr nq).mono HB.out.size), HK3.out⟩⟩
              · by_cases hwy : 100000 < y.size
                · have HK3 := hide (HK2.out (x.size) (100000) (by omega) (by omega))
                  clear HK2
                  go_wp2_with fail
                  go_quiet (fail)
                  go_wp2_with fail
                  go_roundg (M - j - 1)
                  case measure => omega
                  case rel => exact ⟨j + 1, m + x.size + 100000, by omega, by first | rfl | simp, by first | rfl | (simp; done) | (simp; omega), by omega, by omega, hide ⟨HB.out.trans ((bel_drewN wr nq).mono HB.out.size), HK3.out⟩⟩
                · have HK3 := hide (HK2.out (x.size) (y.size) (by omega) (by omega))
                  clear HK2
                  go_wp2_with fail
                  go_quiet (fail)
                  go_wp2_with fail
                  go_roundg (M - j - 1)
                  case measure => omega
                  case rel => exact ⟨j + 1, m + x.size + y.size, by omega, by first | rfl | simp, by first | rfl | (simp; done) | (simp; omega), by omega, by omega, hide ⟨HB.out.trans ((bel_drewN wr nq).mono HB.out.size), HK3.out⟩⟩
            · by_cases hwx : 100000 < x.size
              · by_cases hzy : y.size < 100000
                · have HK3 := hide (HK2.out (100000) (y.size) (by omega) (by omega))
                  clear HK2
                  go_wp2_with fail
                  go_quiet (fail)
                  go_wp2_with fail
                  go_roundg (M - j - 1)
                  case measure => omega
                  case rel => exact ⟨j + 1, m + 100000 + y.size, by omega, by first | rfl | simp, by first | rfl | (simp; done) | (simp; omega), by omega, by omega, hide ⟨HB.out.trans ((bel_drewN wr nq).mono HB.out.size), HK3.out⟩⟩
                · by_cases hwy : 100000 < y.size
                  · have HK3 := hide (HK2.out (100000) (100000) (by omega) (by omega))
                    clear HK2
                    go_wp2_with fail
                    go_quiet (fail)
                    go_wp2_with fail
                    go_roundg (M - j - 1)
                    case measure => omega
                    case rel => exact ⟨j + 1, m + 100000 + 100000, by omega, by first | rfl | simp, by first | rfl | (simp; done) | (simp; omega), by omega, by omega, hide ⟨HB.out.trans ((bel_drewN wr nq).mono HB.out.size), HK3.out⟩⟩
                  · have HK3 := hide (HK2.out (100000) (y.size) (by omega) (by omega))
                    clear HK2
                    go_wp2_with fail
                    go_quiet (fail)
                    go_wp2_with fail
                    go_roundg (M - j - 1)
                    case measure => omega
                    case rel => exact ⟨j + 1, m + 100000 + y.size, by omega, by first | rfl | simp, by first | rfl | (simp; done) | (simp; omega), by omega, by omega, hide ⟨HB.out.trans ((bel_drewN wr nq).mono HB.out.size), HK3.out⟩⟩
              · by_cases hzy : y.size < 100000
                · have HK3 := hide (HK2.out (x.size) (y.size) (by omega) (by omega))
                  clear HK2
                  go_wp2_with fail
                  go_quiet (fail)
                  go_wp2_with fail
                  go_roundg (M - j - 1)
                  case measure => omega
                  case rel => exact ⟨j + 1, m + x.size + y.size, by omega, by first | rfl | simp, by first | rfl | (simp; done) | (simp; omega), by omega, by omega, hide ⟨HB.out.trans ((bel_drewN wr nq).mono HB.out.size), HK3.out⟩⟩
                · by_cases hwy : 100000 < y.size
                  · have HK3 := hide (HK2.out (x.size) (100000) (by omega) (by omega))
                    clear HK2
                    go_wp2_with fail
                    go_quiet (fail)
                    go_wp2_with fail
                    go_roundg (M - j - 1)
                    case measure => omega
                    case rel => exact ⟨j + 1, m + x.size + 100000, by omega, by first | rfl | simp, by first | rfl | (simp; done) | (simp; omega), by omega, by omega, hide ⟨HB.out.trans ((bel_drewN wr nq).mono HB.out.size), HK3.out⟩⟩
                  · have HK3 := hide (HK2.out (x.size) (y.size) (by omega) (by omega))
                    clear HK2
                    go_wp2_with fail
                    go_quiet (fail)
                    go_wp2_with fail
                    go_roundg (M - j - 1)
                    case measure => omega
                    case rel => exact ⟨j + 1, m + x.size + y.size, by omega, by first | rfl | simp, by first | rfl | (simp; done) | (simp; omega), by omega, by omega, hide ⟨HB.out.trans ((bel_drewN wr nq).mono HB.out.size), HK3.out⟩⟩
          · have dlt2 : decide ((j : Int) < (M : Int)) = false := decide_eq_false (by omega)
            have HM2 : Hid (m = mSum (ids.map bl) + mSum (ts.map (fun z => bl z.1)) + mSum (ts.map (fun z => bl z.2))) := hide (by
              have h1 : ts.take j = ts := List.take_of_length_le (by rw [← HMM.out]; omega)
              have h2 := HK.out.2
              rw [h1, HI2.out] at h2
              omega)
            have HW : Hid (MBox w A wr) := hide (HN.out.keep HB.out)
            obtain ⟨z6, z7, z8, z9, z10, z11, z12, z13, z14⟩ := HZ.out wr HW.out
            have HC : Hid (Calls Tryz.prog 24 #[.agg #[.int .i64 p.ep, v1, v2, v3, v4, v5, .int .i64 p.dp, .int .i64 p.nd, .int .i64 p.bt]] wr fun e w' => (∃ b : Bool, e = .returned (.bool b) ∧ (b = true → light p)) ∧ Below wr.heap.size wr w') := hide (rlight_any v1 v2 v3 v4 v5 p l1 l2 l3 l4 l5 wr (HV.out.below HW.out.2))
            clear HK HP HI2 HZ HN
            by_cases h20 : m < 20000
            · have d20 : decide ((m : Int) < 20000) = true := decide_eq_true (by omega)
              go_wp2_with fail
              refine HC.out.mono ?_
              rintro e' w' ⟨⟨b, rfl, hb⟩, hbel⟩
              go_wp2_with fail
              go_ret
              exact ⟨⟨b, rfl, fun h => ⟨hb h, by omega, by omega, by have := HM2.out; omega⟩⟩, (HW.out.keep hbel).2⟩
            · have d20 : decide ((m : Int) < 20000) = false := decide_eq_false (by omega)
              go_wp2_with fail
              go_ret
              exact ⟨⟨false, rfl, fun h => by cases h⟩, HW.out.2⟩
end Go.Proofs.YtmogplecohkjcaaGreatDoor
