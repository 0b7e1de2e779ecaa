/-
  The program's rightPosts, walked.
-/
import Derived.Test.YtebcpmgooodmpabGreatDoorME1
namespace Go.Proofs.YtebcpmgooodmpabGreatDoor
open Go.RowKit
open Utf1
open Pol8 hiding text right Right
open Msg15

set_option maxRecDepth 100000 in
set_option maxHeartbeats 8000000 in
theorem erightPosts_any (v : Value) (ts : List (ByteArray × ByteArray)) (hl : ts.length ≤ 100000) (w : World) (hv : PostRow w v ts) :
    Calls Tryz.prog 16 #[v] w fun e w' => (∃ b : Bool, e = .returned (.bool b) ∧ (b = true ↔ (riseI (ts.map (fun x => bl x.1)) = true ∧ ∀ (j : Nat) (x y : ByteArray), ts[j]? = some (x, y) → y.size ≤ 2000))) ∧ Below w.heap.size w w' := by
  obtain ⟨i0, hi, hz0, hz1, hz2⟩ := info_parts infoStrM4
  have HV := hide hv
  obtain ⟨p, cap, rfl, -, -, -⟩ := hv
  obtain ⟨N, hN⟩ : ∃ N, N = ts.length := ⟨_, rfl⟩
  rw [← hN] at hl HV ⊢
  have HN := hide hN
  clear hN
  go_enter Tryz.func16, Tryz.ntmps16
  by_cases h64 : 64 < N
  · have d64 : decide ((64 : Int) < (N : Int)) = true := decide_eq_true (by omega)
    have HF : Hid (riseI (ts.map (fun x => bl x.1)) = false) := hide (by
      unfold riseI
      have h1 : decide ((ts.map (fun x => bl x.1)).length ≤ 64) = false := decide_eq_false (by rw [List.length_map, ← HN.out]; omega)
      rw [h1, Bool.and_false, Bool.and_false])
    clear h64
    go_wp2_with fail
    go_ret
    exact ⟨⟨false, rfl, ⟨fun h => (by cases h), fun h => (by rw [HF.out] at h; cases h.1)⟩⟩, Below.refl _ _⟩
  · have d64 : decide ((64 : Int) < (N : Int)) = false := decide_eq_false (by omega)
    have hn64 : N ≤ 64 := by omega
    clear h64
    go_wp2_with fail
    go_loopg [3, 11] N (fun g v3 v11 wr => ∃ (i n cp : Nat) (q : Option Addr), i + g = N ∧ n = i ∧ v11 = .int .i64 (i : Int) ∧ v3 = .slice q n cp ∧ Hid (wr.ownsRow w.heap.size 9 1 (.slice q n cp) n (strV ((ts.take i).map (·.1))) ∧ Below w.heap.size w wr ∧ ∀ (j : Nat) (x y : ByteArray), j < i → ts[j]? = some (x, y) → y.size ≤ 2000))
    case atStart => exact ⟨0, 0, 0, none, by omega, rfl, rfl, rfl, hide ⟨⟨rfl, .inl ⟨rfl, rfl⟩⟩, Below.refl _ _, fun j x y h => by omega⟩⟩
    case round =>
      obtain ⟨i, n, cp, q, hig, hni, rfl, rfl, HR⟩ := hrel
      by_cases hlt : i < N
      · have hd : decide ((i : Int) < (N : Int)) = true := decide_eq_true (by omega)
        have hia : i < ts.length := by rw [← HN.out]; exact hlt
        have hga : ts[i]? = some ts[i] := List.getElem?_eq_getElem hia
        generalize ts[i] = ab at hga
        obtain ⟨a, b⟩ := ab
        obtain ⟨g, off, rfl, c0, c1⟩ : ∃ g off, p = some ⟨g, off, none⟩ ∧ wr.cell? ⟨g, off + i * 2, none⟩ = some (.string a) ∧ wr.cell? ⟨g, off + i * 2 + 1, none⟩ = some (.string b) := by
          obtain ⟨p', cap', e, _, _, hc⟩ := HV.out.below HR.out.2.1
          injection e with e1 e2 e3
          obtain ⟨g, off, e4, x, y⟩ := hc i a b hga
          exact ⟨g, off, e1.trans e4, x, y⟩
        obtain ⟨w2, hw2⟩ : ∃ w2, w2 = wr.alloc (.cells #[.string a, .string b] 27) := ⟨_, rfl⟩
        have z0 : w2.cell? ⟨wr.heap.size, 0, none⟩ = some (.string a) := by rw [hw2]; exact tag_cell (new_block _ _ _) 0 _ rfl
        have z1 : w2.cell? ⟨wr.heap.size, 1, none⟩ = some (.string b) := by rw [hw2]; exact tag_cell (new_block _ _ _) 1 _ rfl
        have HB2 : Hid (Below w.heap.size w w2 ∧ w2.ownsRow w.heap.size 9 1 (.slice q n cp) n (strV ((ts.take i).map (·.1)))) := hide (by rw [hw2]; exact ⟨bel_alloc HR.out.2.1 _, HR.out.1.alloc _⟩)
        go_upto_region 7 with fail
        rw [← hw2]
        clear hw2 c0 c1
        by_cases h2 : 2000 < b.size
        · have d2 : decide ((2000 : Int) < (b.size : Int)) = true := decide_eq_true (by omega)
          have HF : Hid (¬ ∀ (j : Nat) (x y : ByteArray), ts[j]? = some (x, y) → y.size ≤ 2000) := hide (fun h => by have := h i a b hga; omega)
          clear hga h2
          go_wp2_with fail
          go_ret
          exact ⟨⟨false, rfl, ⟨fun h => (by cases h), fun h => absurd h.2 HF.out⟩⟩, HB2.out.1⟩
        · have d2 : decide ((2000 : Int) < (b.size : Int)) = false := decide_eq_false (by omega)
          have HK : Hid (∀ (j : Nat) (x y : ByteArray), j < i + 1 → ts[j]? = some (x, y) → y.size ≤ 2000) := hide (fun j x y hj hx => by
            by_cases e : j = i
            · subst e
              rw [hga] at hx
              injection hx with hx
              injection hx with _ hx
              rw [← hx]
              omega
            · exact HR.out.2.2 j x y (by omega) hx)
          have HTK : Hid ((ts.take (i + 1)).map (·.1) = (ts.take i).map (·.1) ++ [a]) := hide (by
            rw [List.take_add_one, hga, List.map_append]
            rfl)
          have HOW : Hid ((w2.alloc (.cells #[.string a] 9)).ownsRow w.heap.size 9 1 (.slice q n cp) n (strV ((ts.take i).map (·.1)))) := hide (HB2.out.2.alloc _)
          have HSZ : Hid (w.heap.size ≤ (w2.alloc (.cells #[.string a] 9)).heap.size) := hide (by have := HB2.out.1.size; simp; omega)
          have HNI := hide hni
          have hn1 : n ≤ 100000 := by omega
          clear hga hia hni h2
          go_wp2_with (at_builtin; refine wpList_append_own _ rfl _ _ 29 rfl w.heap.size 9 i0 _ 1 16 Tryz.underlying29 hi hz0 hz1 hz2 rfl (by decide) (.slice q n cp) n (strV ((ts.take i).map (·.1))) rfl HOW.out ⟨w2.heap.size, 0, none⟩ 1 1 [.string a] rfl rfl (one_new _ _ _) (by simp [Value.oneCell']) (by unfold maxLen; omega) (by omega) HSZ.out ?_)
          intro u' w3 hown3 hg3 _
          obtain ⟨p', c', rfl, -⟩ := own_shape hown3
          have HR3 : Hid (w3.ownsRow w.heap.size 9 1 (.slice p' (n + 1) c') (n + 1) (strV ((ts.take (i + 1)).map (·.1))) ∧ Below w.heap.size w w3) := hide ⟨by rw [HTK.out, strV_app, List.map_take]; exact hown3, (HB2.out.1.alloc HB2.out.1.size _).grown hg3 HSZ.out (fun kk hkk => (HOW.out.lt kk hkk).1)⟩
          clear hown3 hg3 HOW HSZ HR HB2
          go_wp2_with fail
          go_roundg (N - (i + 1))
          case measure => omega
          case rel => exact ⟨i + 1, n + 1, c', p', by omega, by have := HNI.out; omega, by first | rfl | simp, rfl, hide ⟨HR3.out.1, HR3.out.2, HK.out⟩⟩
      · have hd : decide ((i : Int) < (N : Int)) = false := decide_eq_false (by omega)
        have hiN : i = ts.length := by rw [← HN.out]; omega
        have HE : Hid (StrArg wr (.slice q n cp) (ts.map (·.1)) ∧ Below w.heap.size w wr ∧ ∀ (j : Nat) (x y : ByteArray), ts[j]? = some (x, y) → y.size ≤ 2000) := hide (by
          refine ⟨?_, HR.out.2.1, fun j x y hx => HR.out.2.2 j x y (by rw [hiN]; exact (List.getElem?_eq_some_iff.1 hx).1) hx⟩
          have h1 := HR.out.1
          rw [hiN, List.take_length] at h1
          exact own_arg (B := w.heap.size) (by rw [List.length_map, ← hiN, ← hni]; exact h1))
        have hd2 : decide (i < N) = false := decide_eq_false hlt
        clear hiN HR hni hlt hig
        have C1 := hide (erightIDs_any (.slice q n cp) (ts.map (·.1)) (by rw [List.length_map, ← HN.out]; exact hl) wr HE.out.1)
        have e1 : (ts.map (·.1)).map bl = ts.map (fun x => bl x.1) := by rw [List.map_map]; rfl
        rw [e1] at C1
        clear e1
        obtain ⟨R, hR⟩ : ∃ R, R = riseI (ts.map (fun x => bl x.1)) := ⟨_, rfl⟩
        rw [← hR] at C1
        have HRR := hide hR
        clear hR
        go_wp2_with fail
        refine C1.out.mono ?_
        rintro e w4 ⟨rfl, hb4⟩
        have HB4 := hide (bel2 HE.out.2.1 hb4)
        clear hb4 C1
        go_wp2_with fail
        go_ret
        exact ⟨⟨R, rfl, ⟨fun h => ⟨by rw [← HRR.out]; exact h, HE.out.2.2⟩, fun h => by rw [HRR.out]; exact h.1⟩⟩, HB4.out⟩
end Go.Proofs.YtebcpmgooodmpabGreatDoor
