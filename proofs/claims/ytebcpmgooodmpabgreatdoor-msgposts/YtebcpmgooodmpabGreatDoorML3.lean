/-
  The law MsgPosts.
-/
import Derived.Test.YtebcpmgooodmpabGreatDoorML1
namespace Go.Proofs.YtebcpmgooodmpabGreatDoor
open Go.RowKit
open Utf1
open Pol8 hiding text right Right
open Msg15

theorem postR (a b : L) : MRight ⟨2, 1, 2, 0, [], [(a, b)], Pol.zero⟩ ↔ (1 ≤ a.length ∧ a.length ≤ 16) ∧ b.length ≤ 2000 := by
  have h1 : riseI [a] = decide (1 ≤ a.length ∧ a.length ≤ 16) := by
    unfold riseI
    have : Pol8.chain [a] = true := rfl
    rw [this]
    simp
  constructor
  · intro h
    have h2 := h.rposts
    have h3 := h.raws (a, b) (by simp)
    have h4 : riseI [a] = true := h2
    rw [h1] at h4
    exact ⟨of_decide_eq_true h4, h3⟩
  · rintro ⟨h2, h3⟩
    refine ⟨(by show (0 : Int) ≤ 1 ∧ (1 : Int) ≤ 5; decide), (by show (0 : Int) ≤ 2 ∧ (2 : Int) ≤ 5; decide), (by show (1 : Int) ≠ 2; decide), (by show (0 : Int) ≤ 0 ∧ (0 : Int) ≤ 1000000; decide), (by show (1 : Int) ≤ 2 ∧ (2 : Int) ≤ 4; decide), fun _ => rfl, fun h => absurd rfl h, fun _ => rfl, fun _ => rfl, fun h => (by cases h), riseI_nil, ?_, ?_⟩
    · show riseI [a] = true
      rw [h1]
      exact decide_eq_true h2
    · intro p hp
      rw [List.mem_singleton.1 hp]
      exact h3
theorem post_len {a b : L} (h1 : a.length ≤ 16) (h2 : b.length ≤ 2000) : (textM ⟨2, 1, 2, 0, [], [(a, b)], Pol.zero⟩).length ≤ 99999 := by
  have h := flds_bound 2000 (by omega) (listM ⟨2, 1, 2, 0, [], [(a, b)], Pol.zero⟩) (by
    intro t ht
    have hd : ∀ n : Nat, n ≤ 10 → (dec n).length ≤ 2000 := fun n hn => by have := dec_len n 2 (by omega); omega
    have ht' : t ∈ [dec 2, dec 1, dec 2, dec 0, dec 1, a, b] := ht
    simp only [List.mem_cons, List.not_mem_nil, or_false] at ht'
    rcases ht' with rfl | rfl | rfl | rfl | rfl | rfl | rfl
    · exact hd 2 (by omega)
    · exact hd 1 (by omega)
    · exact hd 2 (by omega)
    · exact hd 0 (by omega)
    · exact hd 1 (by omega)
    · omega
    · omega)
  have h7 : (listM ⟨2, 1, 2, 0, [], [(a, b)], Pol.zero⟩).length = 7 := rfl
  rw [h7] at h
  show (flds (listM ⟨2, 1, 2, 0, [], [(a, b)], Pol.zero⟩)).length ≤ _
  omega
theorem one_post (w : World) (a b : ByteArray) (t : TypeId) : PostRow (w.alloc (.cells #[.string a, .string b] t)) (.slice (some ⟨w.heap.size, 0, none⟩) 1 1) [(a, b)] := by
  have hb := new_block w #[.string a, .string b] t
  refine ⟨_, 1, rfl, Nat.le_refl _, fun h => (by cases h), fun i x y hi => ?_⟩
  have : i = 0 := by
    have := (List.getElem?_eq_some_iff.1 hi).1
    simp at this
    omega
  subst this
  have e : (a, b) = (x, y) := by simpa using hi
  injection e with e1 e2
  subst e1 e2
  exact ⟨w.heap.size, 0, rfl, tag_cell hb 0 _ rfl, tag_cell hb 1 _ rfl⟩

set_option maxRecDepth 100000 in
set_option maxHeartbeats 16000000 in
theorem posts_walk (id raw : ByteArray) (w : World) (hg : Glob w) (hge : GlobE w) :
    Calls Tryz.prog 3 #[.string id, .string raw] w fun e w' => e = .returned (.bool true) ∧ Below w.heap.size w w' := by
  have CA := hide (eawake_any w hg hge)
  have HG := hide hg
  have HGE := hide hge
  clear hg hge
  go_enter Tryz.func3, Tryz.ntmps3
  go_wp2_with fail
  refine CA.out.mono ?_
  rintro e w1 ⟨rfl, hb1⟩
  have HB1 := hide hb1
  clear CA
  by_cases hbig : 100 < id.size ∨ 3000 < raw.size
  · by_cases h1 : 100 < id.size
    · have d1 : decide ((100 : Int) < (id.size : Int)) = true := decide_eq_true (by omega)
      clear hbig h1 hb1
      go_wp2_with fail
      go_ret
      exact ⟨rfl, HB1.out⟩
    · have d1 : decide ((100 : Int) < (id.size : Int)) = false := decide_eq_false (by omega)
      have d2 : decide ((3000 : Int) < (raw.size : Int)) = true := decide_eq_true (by omega)
      clear hbig h1 hb1
      go_wp2_with fail
      go_ret
      exact ⟨rfl, HB1.out⟩
  have d1 : decide ((100 : Int) < (id.size : Int)) = false := decide_eq_false (by omega)
  have d2 : decide ((3000 : Int) < (raw.size : Int)) = false := decide_eq_false (by omega)
  obtain ⟨w2, hw2⟩ : ∃ w2, w2 = w1.alloc (.cells #[.string id, .string raw] 27) := ⟨_, rfl⟩
  have HB2 : Hid (Below w.heap.size w w2) := hide (by rw [hw2]; exact bel_alloc hb1 _)
  have CE : Hid (Calls Tryz.prog 5 #[.agg #[.int .i64 2, .int .i64 1, .int .i64 2, .int .i64 0, .slice none 0 0, .slice (some ⟨w1.heap.size, 0, none⟩) 1 1, .int .i64 0, .slice none 0 0, .slice none 0 0, .slice none 0 0, .slice none 0 0, .slice none 0 0, .int .i64 0, .int .i64 0, .int .i64 0]] w2 fun e w' => EncQ (⟨2, 1, 2, 0, [], [(bl id, bl raw)], Pol.zero⟩ : Ms) e ∧ Below w2.heap.size w2 w') := hide (eencode_any (⟨2, 1, 2, 0, [], [(bl id, bl raw)], Pol.zero⟩ : Ms) _ _ _ _ _ _ _ [] [(id, raw)] [] [] [] [] [] w2 ⟨strArg_nil _, by rw [hw2]; exact one_post w1 id raw _, PolV.zero _ (HG.out.below HB2.out), rfl, rfl, fits_zero, by simp, by simp⟩)
  have HPR := hide (postR (bl id) (bl raw))
  rw [bl_len, bl_len] at HPR
  have HI : Hid (id.size ≤ 100 ∧ raw.size ≤ 3000) := hide (by omega)
  rw [hw2] at CE
  clear hbig hb1
  go_wp2_with fail
  refine CE.out.mono ?_
  rintro e w3 ⟨hq, hb3⟩
  rw [← hw2] at hb3
  have HB3 := hide (HB2.out.trans (hb3.mono HB2.out.size))
  clear hb3 CE hw2 HB2 d1 d2
  by_cases hc : (1 ≤ id.size ∧ id.size ≤ 16) ∧ raw.size ≤ 2000
  rotate_left
  · rcases hq with ⟨h, _⟩ | ⟨_, rfl⟩
    · exact absurd (HPR.out.1 h) hc
    clear HPR
    by_cases h1 : id.size < 1
    · have e1 : decide ((id.size : Int) < 1) = true := decide_eq_true (by omega)
      clear h1 hc
      go_wp2_with fail
      go_ret
      exact ⟨rfl, HB3.out⟩
    · have e1 : decide ((id.size : Int) < 1) = false := decide_eq_false (by omega)
      by_cases h2 : 16 < id.size
      · have e2 : decide ((16 : Int) < (id.size : Int)) = true := decide_eq_true (by omega)
        clear h1 h2 hc
        go_wp2_with fail
        go_ret
        exact ⟨rfl, HB3.out⟩
      · have e2 : decide ((16 : Int) < (id.size : Int)) = false := decide_eq_false (by omega)
        have e3 : decide ((2000 : Int) < (raw.size : Int)) = true := decide_eq_true (by omega)
        clear h1 h2 hc
        go_wp2_with fail
        go_ret
        exact ⟨rfl, HB3.out⟩
  have HR := hide (HPR.out.2 hc)
  have e1 : decide ((id.size : Int) < 1) = false := decide_eq_false (by omega)
  have e2 : decide ((16 : Int) < (id.size : Int)) = false := decide_eq_false (by omega)
  have e3 : decide ((2000 : Int) < (raw.size : Int)) = false := decide_eq_false (by omega)
  rcases hq with ⟨_, rfl⟩ | ⟨h, _⟩
  rotate_left
  · exact absurd HR.out h
  obtain ⟨T, hT⟩ : ∃ T : ByteArray, T = ⟨(textM (⟨2, 1, 2, 0, [], [(bl id, bl raw)], Pol.zero⟩ : Ms)).toArray⟩ := ⟨_, rfl⟩
  have hTb : bl T = textM (⟨2, 1, 2, 0, [], [(bl id, bl raw)], Pol.zero⟩ : Ms) := by rw [hT]
  have hTs : T.size ≤ 99999 := by rw [← bl_len, hTb]; exact post_len (by rw [bl_len]; omega) (by rw [bl_len]; omega)
  rw [← hT]
  have C4 := hide (edecode_any T hTs w3 (HG.out.below HB3.out) (HGE.out.below HB3.out))
  rw [hTb] at C4
  clear hT hTb hc HPR
  go_wp2_with fail
  refine C4.out.mono ?_
  rintro e w4 ⟨hq, hb4⟩
  obtain ⟨m, z, pi, ni, ci, pp, np, cp, q1, n1, c1, q2, n2, c2, q3, n3, c3, q4, n4, c4, q5, n5, c5, ids, ts, l1, l2, l3, l4, l5, rfl, hmv, hd⟩ := hq.shape
  obtain ⟨rfl, rfl⟩ := hd.one (dcd_text HR.out)
  have hts : ts = [(id, raw)] := by
    have h := hmv.ep
    have h' : [(bl id, bl raw)] = ts.map (fun x => (bl x.1, bl x.2)) := h
    cases ts with
    | nil => cases h'
    | cons x r =>
      cases r with
      | cons y r => simp at h'
      | nil =>
        obtain ⟨x1, x2⟩ := x
        simp only [List.map_cons, List.map_nil, List.cons.injEq, Prod.mk.injEq, and_true] at h'
        rw [ba_ext h'.1, ba_ext h'.2]
  obtain ⟨w5, hw5⟩ : ∃ w5, w5 = w4.alloc (.cells #[.int .i64 (⟨2, 1, 2, 0, [], [(bl id, bl raw)], Pol.zero⟩ : Ms).kind, .int .i64 (⟨2, 1, 2, 0, [], [(bl id, bl raw)], Pol.zero⟩ : Ms).fr, .int .i64 (⟨2, 1, 2, 0, [], [(bl id, bl raw)], Pol.zero⟩ : Ms).to, .int .i64 (⟨2, 1, 2, 0, [], [(bl id, bl raw)], Pol.zero⟩ : Ms).ep, .slice pi ni ci, .slice pp np cp, .int .i64 (⟨2, 1, 2, 0, [], [(bl id, bl raw)], Pol.zero⟩ : Ms).pol.ep, .slice q1 n1 c1, .slice q2 n2 c2, .slice q3 n3 c3, .slice q4 n4 c4, .slice q5 n5 c5, .int .i64 (⟨2, 1, 2, 0, [], [(bl id, bl raw)], Pol.zero⟩ : Ms).pol.dp, .int .i64 (⟨2, 1, 2, 0, [], [(bl id, bl raw)], Pol.zero⟩ : Ms).pol.nd, .int .i64 (⟨2, 1, 2, 0, [], [(bl id, bl raw)], Pol.zero⟩ : Ms).pol.bt] 33) := ⟨_, rfl⟩
  have hb5 : Below w4.heap.size w4 w5 := by rw [hw5]; exact bel_alloc (Below.refl _ _) _
  have HB5 : Hid (Below w.heap.size w w5) := hide ((HB3.out.trans (hb4.mono HB3.out.size)).trans (hb5.mono (HB3.out.trans (hb4.mono HB3.out.size)).size))
  obtain ⟨p', cap', ep, _, _, hcell⟩ := hmv.hp.below hb5
  rw [hts] at ep hcell
  obtain ⟨g, off, hp', x0, x1⟩ := hcell 0 id raw rfl
  injection ep with ep1 ep2 ep3
  have hpp : pp = some ⟨g, off, none⟩ := by rw [ep1, hp']
  subst hpp
  have hnp : np = 1 := ep2
  subst hnp
  have v5 : w5.cell? ⟨w4.heap.size, 5, none⟩ = some (.slice (some ⟨g, off, none⟩) 1 cp) := by rw [hw5]; exact tag_cell (new_block _ _ _) 5 _ rfl
  have x0' : w5.cell? ⟨g, off, none⟩ = some (.string id) := x0
  have x1' : w5.cell? ⟨g, off + 1, none⟩ = some (.string raw) := by simpa using x1
  have ei : (id.toList == id.toList) = true := beq_same rfl
  have er : (raw.toList == raw.toList) = true := beq_same rfl
  clear hq hd hb4 C4 hmv hts ep1 ep2 ep3 hp' hcell x0 x1 hb5 e1 e2 e3 hTs
  go_upto_region 8 with fail
  rw [← hw5]
  clear hw5
  go_wp2_with fail
  go_ret
  exact ⟨rfl, HB5.out⟩
end Go.Proofs.YtebcpmgooodmpabGreatDoor
