/-
  The laws' own awake.
-/
import Derived.Test.YtlabdbkmlkmnkaaCA
namespace Go.Proofs.Ytlabdbkmlkmnkaa
open Go.RowKit
open Utf1 Pol8

def awP : Pol := ⟨1, [], [], [], [], [], 1, 1, 1⟩
theorem aw_w1 : wr [awP] 0 = 0 := by kernel_rfl
theorem aw_w2 : wr [awP, awP] 0 = 0 := by kernel_rfl
theorem aw_one {E n : Int} (h : Chk [awP] E n) : E = 0 := (chk_of_all h (fun i hi => by
  have e : i = 0 := by simp at hi; omega
  subst e
  exact aw_w1)).1
theorem aw_two {E n : Int} (h : Chk [awP, awP] E n) : E = 7 ∧ n = 1 := by
  have e1 : wr [awP, awP] 1 = 7 := by kernel_rfl
  have := chk_of_first h (i := 1) (by decide) (by rw [e1]; decide) (fun j hj => by
    have e : j = 0 := by omega
    subst e
    exact aw_w2)
  rw [e1] at this
  exact this
theorem aw_fits : fits awP := by
  intro l hl
  simp only [awP, List.mem_cons, List.not_mem_nil, or_false, or_self] at hl
  subst hl
  simp
abbrev awI : It := ⟨awP, .slice none 0 0, .slice none 0 0, .slice none 0 0, .slice none 0 0, .slice none 0 0, [], [], [], [], []⟩
theorem awI_ok (w : World) : awI.ok w := ⟨strArg_nil w, strArg_nil w, strArg_nil w, strArg_nil w, strArg_nil w, rfl, rfl, rfl, rfl, rfl, trivial⟩
theorem strArg_any {w w' : World} {v : Value} {ss : List ByteArray} (h : StrArg w v ss) (he : ss.map bl = []) : StrArg w' v ss := by
  have e : ss = [] := by simpa using he
  subst e
  obtain ⟨p, cap, rfl, h0, -⟩ := h
  exact ⟨p, cap, rfl, h0, fun i s hi => by simp at hi⟩
theorem aw_ok_any {w w' : World} {t : It} (h : t.ok w) (e : t.p = awP) : t.ok w' := by
  have e1 := h.e1
  have e2 := h.e2
  have e3 := h.e3
  have e4 := h.e4
  have e5 := h.e5
  rw [e] at e1 e2 e3 e4 e5
  exact ⟨strArg_any h.s1 e1, strArg_any h.s2 e2, strArg_any h.s3 e3, strArg_any h.s4 e4, strArg_any h.s5 e5, h.e1, h.e2, h.e3, h.e4, h.e5, trivial⟩

set_option maxRecDepth 100000 in
set_option maxHeartbeats 8000000 in
theorem awake_any (hC : CheckC) (hA : AddC) (w : World) :
    Calls Try.prog 8 #[] w fun e w' => e = .returned (.bool true) ∧ Below w.heap.size w w' := by
  obtain ⟨i0, hi, hz0, hz1, hz2⟩ := info_parts infoPol
  obtain ⟨A, hA1⟩ : ∃ A : Array Value, A = #[.int .i64 1, .slice none 0 0, .slice none 0 0, .slice none 0 0, .slice none 0 0, .slice none 0 0, .int .i64 1, .int .i64 1, .int .i64 1] := ⟨_, rfl⟩
  obtain ⟨w1, hw1⟩ : ∃ w1, w1 = w.alloc (.cells A 30) := ⟨_, rfl⟩
  have H1 : Hid (BoxP w A w1) := hide (by rw [hw1]; exact ⟨new_block _ _ _, bel_alloc (Below.refl _ _) _⟩)
  have HY : Hid (∀ wx, BoxP w A wx → wx.cell? ⟨w.heap.size, 0, none⟩ = some (.int .i64 1) ∧ wx.cell? ⟨w.heap.size, 1, none⟩ = some (.slice none 0 0) ∧ wx.cell? ⟨w.heap.size, 2, none⟩ = some (.slice none 0 0) ∧ wx.cell? ⟨w.heap.size, 3, none⟩ = some (.slice none 0 0) ∧ wx.cell? ⟨w.heap.size, 4, none⟩ = some (.slice none 0 0) ∧ wx.cell? ⟨w.heap.size, 5, none⟩ = some (.slice none 0 0) ∧ wx.cell? ⟨w.heap.size, 6, none⟩ = some (.int .i64 1) ∧ wx.cell? ⟨w.heap.size, 7, none⟩ = some (.int .i64 1) ∧ wx.cell? ⟨w.heap.size, 8, none⟩ = some (.int .i64 1)) := hide (fun wx h => ⟨h.cell 0 _ (by rw [hA1]; rfl), h.cell 1 _ (by rw [hA1]; rfl), h.cell 2 _ (by rw [hA1]; rfl), h.cell 3 _ (by rw [hA1]; rfl), h.cell 4 _ (by rw [hA1]; rfl), h.cell 5 _ (by rw [hA1]; rfl), h.cell 6 _ (by rw [hA1]; rfl), h.cell 7 _ (by rw [hA1]; rfl), h.cell 8 _ (by rw [hA1]; rfl)⟩)
  have C1 : Hid (Calls Try.prog 12 #[.slice none 0 0, .agg #[.int .i64 1, .slice none 0 0, .slice none 0 0, .slice none 0 0, .slice none 0 0, .slice none 0 0, .int .i64 1, .int .i64 1, .int .i64 1]] w1 fun e w' => (∃ us p c, e = .returned (.tuple #[.slice p 1 c, .int .i64 0]) ∧ OwnP w' w1.heap.size (.slice p 1 c) us ∧ us.map It.p = [awP]) ∧ Below w1.heap.size w1 w') := hide (by
    refine (hA (.slice none 0 0) [] awI w1 (fun t ht => by cases ht) aw_fits (by simp) (polRow_nil w1) (awI_ok w1)).mono ?_
    rintro e w' ⟨⟨E, n, u, rfl, hc, h0, -⟩, hb⟩
    have hE := aw_one hc
    subst hE
    obtain ⟨us, ho, hm⟩ := h0 rfl
    have hl : us.length = 1 := by
      have := congrArg List.length hm
      simpa using this
    obtain ⟨p, c, rfl, -⟩ := own_shape ho.o
    rw [hl] at ho
    exact ⟨⟨us, p, c, by rw [hl], ho, hm⟩, hb⟩)
  have HC := hide hC
  rw [hA1] at hw1
  clear hA1 hA hC
  go_enter Try.func8, Try.ntmps8
  go_upto_region 2 with fail
  rw [← hw1]
  clear hw1
  obtain ⟨y0, y1, y2, y3, y4, y5, y6, y7, y8⟩ := HY.out w1 H1.out
  go_wp2_with fail
  refine C1.out.mono ?_
  rintro e w2 ⟨⟨us, p, c, rfl, ho, hm⟩, h2⟩
  have H2 := hide (H1.out.keep h2)
  have HO := hide ho
  have HM := hide hm
  have HS : Hid (w.heap.size < w1.heap.size ∧ w1.heap.size ≤ w2.heap.size) := hide ⟨(Array.getElem?_eq_some_iff.1 H1.out.1).1, h2.size⟩
  clear y0 y1 y2 y3 y4 y5 y6 y7 y8 C1 ho hm h2
  obtain ⟨y0, y1, y2, y3, y4, y5, y6, y7, y8⟩ := HY.out w2 H2.out
  have hl : us.length = 1 := by
    have := congrArg List.length HM.out
    simpa using this
  have HOW : Hid ((w2.alloc (.cells #[.int .i64 1, .slice none 0 0, .slice none 0 0, .slice none 0 0, .slice none 0 0, .slice none 0 0, .int .i64 1, .int .i64 1, .int .i64 1] 30)).ownsRow w1.heap.size 30 9 (.slice p 1 c) 1 (flat us)) := hide (by
    have h := HO.out.o
    rw [hl] at h
    exact h.alloc _)
  have HSZ : Hid (w1.heap.size ≤ (w2.alloc (.cells #[.int .i64 1, .slice none 0 0, .slice none 0 0, .slice none 0 0, .slice none 0 0, .slice none 0 0, .int .i64 1, .int .i64 1, .int .i64 1] 30)).heap.size) := hide (by have := HS.out.2; simp; omega)
  have HB2 : Hid (BoxP w A (w2.alloc (.cells #[.int .i64 1, .slice none 0 0, .slice none 0 0, .slice none 0 0, .slice none 0 0, .slice none 0 0, .int .i64 1, .int .i64 1, .int .i64 1] 30))) := hide (H2.out.keep (bel_alloc (Below.refl _ _) _))
  have HCL : Hid (∀ j u, ([.int .i64 1, .slice none 0 0, .slice none 0 0, .slice none 0 0, .slice none 0 0, .slice none 0 0, .int .i64 1, .int .i64 1, .int .i64 1] : List Value)[j]? = some u → (w2.alloc (.cells #[.int .i64 1, .slice none 0 0, .slice none 0 0, .slice none 0 0, .slice none 0 0, .slice none 0 0, .int .i64 1, .int .i64 1, .int .i64 1] 30)).cell? ((⟨w2.heap.size, 0, none⟩ : Addr).add j) = some u) := hide (fun j u hj => by
    rw [add_plain, Nat.zero_add]
    exact tag_cell (new_block _ _ _) j u (by rw [List.getElem?_toArray]; exact hj))
  have HL := hide hl
  clear hl
  go_wp2_with (at_builtin; refine wpList_append_own _ rfl _ _ 22 rfl w1.heap.size 30 i0 _ 9 152 Try.underlying22 hi hz0 hz1 hz2 rfl (by decide) (.slice p 1 c) 1 (flat us) rfl HOW.out ⟨w2.heap.size, 0, none⟩ 1 1 [.int .i64 1, .slice none 0 0, .slice none 0 0, .slice none 0 0, .slice none 0 0, .slice none 0 0, .int .i64 1, .int .i64 1, .int .i64 1] rfl rfl HCL.out (by simp [Value.oneCell']) (by unfold maxLen; omega) (by omega) HSZ.out ?_)
  intro u3 w3 hown3 hg3 _
  have hb3 : Below w.heap.size w w3 := HB2.out.2.grown hg3 HB2.out.2.size (fun k hk => by
    have := (HOW.out.lt k hk).1
    have := HS.out.1
    omega)
  obtain ⟨p', c', rfl, -⟩ := own_shape hown3
  have HO3 : Hid (OwnP w3 w1.heap.size (.slice p' 2 c') (us ++ [awI])) := hide (by
    refine ⟨?_, fun t ht => ?_⟩
    · rw [flat_app, flat_one, List.length_append, HL.out]
      exact hown3
    · rcases List.mem_append.1 ht with ht | ht
      · exact aw_ok_any (HO.out.k t ht) (List.mem_singleton.1 (by rw [← HM.out]; exact List.mem_map_of_mem ht))
      · rw [List.mem_singleton.1 ht]
        exact awI_ok _)
  have HM3 : Hid ((us ++ [awI]).map It.p = [awP, awP]) := hide (by rw [List.map_append, HM.out]; rfl)
  have HB3 := hide hb3
  have C3 : Hid (Calls Try.prog 10 #[.slice p' 2 c'] w3 fun e w' => e = .returned (.tuple #[.int .i64 7, .int .i64 1]) ∧ Below w.heap.size w w') := hide (by
    refine (HC.out (.slice p' 2 c') (us ++ [awI]) w3 (fun t ht => ?_) (by rw [List.length_append, HL.out]; decide) HO3.out.row).mono ?_
    · have : t.p ∈ (us ++ [awI]).map It.p := List.mem_map_of_mem ht
      rw [HM3.out] at this
      simp only [List.mem_cons, List.not_mem_nil, or_false, or_self] at this
      rw [this]
      exact aw_fits
    · rintro e w' ⟨⟨E, n, rfl, hc⟩, hb⟩
      rw [HM3.out] at hc
      obtain ⟨rfl, rfl⟩ := aw_two hc
      exact ⟨rfl, bel2 HB3.out hb⟩)
  clear hown3 hg3 hb3 HO3 HM3 HOW HSZ HB2 HCL HO HM HC H1 H2 HY HS HL y0 y1 y2 y3 y4 y5 y6 y7 y8
  go_wp2_with fail
  refine C3.out.mono ?_
  rintro e w4 ⟨rfl, h4⟩
  have H4 := hide h4
  clear h4 C3 HB3
  go_wp2_with fail
  go_ret
  exact ⟨rfl, H4.out⟩
end Go.Proofs.Ytlabdbkmlkmnkaa
