/-
  What the document's Escape answers; the law RefsEscapes: it answers true.
-/
import Derived.Test.YtholfdfjapgfbaaD1
import Derived.Test.YtholfdfjapgfbaaE3
import Derived.Test.YtholfdfjapgfbaaM3
namespace Go.Proofs.Ytholfdfjapgfbaa
open Go.RowKit
open Utf1

/-- A character, escaped. -/
def escC (q : Bool) (c : List UInt8) : List UInt8 :=
  if c = [38] then [38, 97, 109, 112, 59] else if c = [60] then [38, 108, 116, 59] else if c = [62] then [38, 103, 116, 59] else if c = [194, 160] then [38, 110, 98, 115, 112, 59]
  else if c = [34] ∧ q = true then [38, 113, 117, 111, 116, 59] else c

theorem er_38 : er 38 = [38] := by decide
theorem er_60 : er 60 = [60] := by decide
theorem er_62 : er 62 = [62] := by decide
theorem er_160 : er 160 = [194, 160] := by decide
theorem er_34 : er 34 = [34] := by decide

theorem esc1_escC (q : Bool) (l : List UInt8) (hl : l ≠ []) : esc1 q l = escC q (l.take (dl l).2) := by
  rcases dl_cases l hl with ⟨h0, hd⟩ | ⟨r, t, hr, he, hd, _⟩
  · cases l with
    | nil => exact absurd rfl hl
    | cons c t =>
      have hh := rt_head _ hl h0
      have hh : 128 ≤ c.toNat := hh
      unfold esc1
      rw [hd]
      simp only
      rw [if_pos (by cases q <;> rfl)]
      show [c] = escC q [c]
      have ne : ∀ k : UInt8, k.toNat < 128 → [c] ≠ [k] := by
        intro k hk e
        have : c = k := by simpa using e
        rw [this] at hh
        omega
      unfold escC
      rw [if_neg (ne 38 (by decide)), if_neg (ne 60 (by decide)), if_neg (ne 62 (by decide)), if_neg (by simp), if_neg (fun h => ne 34 (by decide) h.1)]
  · have htk : l.take (dl l).2 = er r := by
      rw [hd]
      simp only
      rw [he, List.take_left]
    rw [htk]
    unfold esc1
    rw [hd]
    simp only
    have htk2 : l.take (er r).length = er r := by rw [he, List.take_left]
    rw [htk2]
    have inj : ∀ k, Scalar k → (er r = er k ↔ r = k) := fun k hk => ⟨fun e => er_inj hr hk e, fun e => by rw [e]⟩
    have i1 := inj 38 (.inl (by decide))
    have i2 := inj 60 (.inl (by decide))
    have i3 := inj 62 (.inl (by decide))
    have i4 := inj 160 (.inl (by decide))
    have i5 := inj 34 (.inl (by decide))
    rw [er_38] at i1
    rw [er_60] at i2
    rw [er_62] at i3
    rw [er_160] at i4
    rw [er_34] at i5
    unfold escC refOf
    by_cases h1 : r = 38
    · rw [if_pos h1, if_pos (i1.2 h1)]; simp
    · rw [if_neg h1, if_neg (fun e => h1 (i1.1 e))]
      by_cases h2 : r = 60
      · rw [if_pos h2, if_pos (i2.2 h2)]; simp
      · rw [if_neg h2, if_neg (fun e => h2 (i2.1 e))]
        by_cases h3 : r = 62
        · rw [if_pos h3, if_pos (i3.2 h3)]; simp
        · rw [if_neg h3, if_neg (fun e => h3 (i3.1 e))]
          by_cases h4 : r = 160
          · rw [if_pos h4, if_pos (i4.2 h4)]; simp
          · rw [if_neg h4, if_neg (fun e => h4 (i4.1 e))]
            by_cases h5 : r = 34 ∧ q = true
            · rw [if_pos h5, if_pos (show er r = [34] ∧ q = true from ⟨i5.2 h5.1, h5.2⟩)]; simp
            · rw [if_neg h5, if_neg (show ¬ (er r = [34] ∧ q = true) from fun e => h5 ⟨i5.1 e.1, e.2⟩)]; simp

theorem esc_chs (q : Bool) (l : List UInt8) : ((chs l).map (escC q)).flatten = esc q l := by
  induction h : l.length using Nat.strongRecOn generalizing l with
  | ind m ih =>
    by_cases hl : l = []
    · subst hl; rfl
    · have hw := dl_width l hl
      rw [chs_step l hl, List.map_cons, List.flatten_cons, esc_step q l hl, esc1_escC q l hl, ih (l.drop (dl l).2).length (by simp; omega) _ rfl]

theorem app_bl (a b : ByteArray) : bl (a ++ b) = bl a ++ bl b := by
  show (a ++ b).data.toList = _
  rw [ByteArray.data_append, Array.toList_append]

theorem own_cell {w : World} {B : Nat} {e : TypeId} {a : Option Addr} {n m cap : Nat} {xs : List Value} (h : w.ownsRow B e 1 (.slice a n cap) m xs) (i : Nat) (hi : i < xs.length) : ∃ g, a = some ⟨g, 0, none⟩ ∧ w.cell? ⟨g, i, none⟩ = some xs[i] := by
  rcases h.2 with ⟨hv, rfl⟩ | ⟨g, c, cur, hv, _, hg, hmc, _, hcs, hx⟩
  · have := h.1
    omega
  · simp at hv
    refine ⟨g, hv.1, ?_⟩
    unfold World.cell?
    rw [hg]
    have hxl : xs.length = m := by have := h.1; omega
    have hi2 : i < cur.size := by omega
    have : xs[i] = cur[i] := by
      have h2 : (cur.toList.take (m * 1))[i]? = xs[i]? := by rw [hx]
      rw [List.getElem?_take_of_lt (by omega), List.getElem?_eq_getElem hi] at h2
      simp [hi2] at h2
      exact h2.symm
    simp [this, hi2]
theorem chs_le (l : List UInt8) : ∀ c ∈ chs l, c.length ≤ l.length := by
  induction h : l.length using Nat.strongRecOn generalizing l with
  | ind m ih =>
    intro c hc
    by_cases hl : l = []
    · subst hl; simp [chs_nil] at hc
    · have hw := dl_width l hl
      rw [chs_step l hl] at hc
      rcases List.mem_cons.1 hc with rfl | hc
      · rw [List.length_take]; omega
      · have := ih (l.drop (dl l).2).length (by simp; omega) _ rfl c hc
        simp at this
        omega
theorem runes_le3 (l : List UInt8) : (runes l).length ≤ l.length := by
  induction h : l.length using Nat.strongRecOn generalizing l with
  | ind m ih =>
    by_cases hl : l = []
    · subst hl; simp [runes_nil]
    · have hw := dl_width l hl
      rw [runes_step l hl, List.length_cons]
      have := ih (l.drop (dl l).2).length (by simp; omega) _ rfl
      simp at this
      omega

theorem char160 (w : World) : Calls Try.prog 26 #[.int .i64 160] w fun e w' => e = .returned (.string ⟨#[194, 160]⟩) ∧ Below w.heap.size w w' := by
  have h := char_any 160 (by decide) w
  rw [show chN 160 = 160 from rfl, er_160] at h
  exact h

set_option maxHeartbeats 4000000 in
theorem refEscape_any (s : ByteArray) (q : Bool) (w : World) (hs : s.size ≤ 20000) :
    Calls Try.prog 17 #[.string s, .bool q] w fun e w' => e = .returned (.string ⟨(esc q (bl s)).toArray⟩) ∧ Below w.heap.size w w' := by
  have CH := hide fun w => rchars_any s w (by omega)
  have HC := hide (esc_chs q (bl s))
  have hcl := chs_len (bl s)
  have hcm := chs_le (bl s)
  have hEL := (esc_lens q (bl s)).2
  rw [bl_len] at hcm hEL
  have hrl : (chs (bl s)).length ≤ 20000 := by
    have := runes_le3 (bl s)
    rw [bl_len] at this
    omega
  generalize chs (bl s) = cs at *
  have HCM := hide hcm
  clear hcl hcm
  go_enter Try.func17, Try.ntmps17
  go_wp2_with fail
  refine (CH.out _).mono ?_
  rintro e w1 ⟨v, rfl, hown, hb1⟩
  obtain ⟨a, cap, rfl⟩ : ∃ a cap, v = .slice a cs.length cap := by
    rcases hown.2 with ⟨rfl, h0⟩ | ⟨g, cap, cur, rfl, _⟩
    · rw [h0]; exact ⟨none, 0, rfl⟩
    · exact ⟨_, cap, rfl⟩
  go_wp2_with fail
  go_loopw [6, 7] (fun o i wr => ∃ (k : Nat) (O : ByteArray), k ≤ cs.length ∧ i = .int .i64 (k : Int) ∧ o = .string O ∧ Below w1.heap.size w1 wr ∧ Hid (bl O ++ ((cs.drop k).map (escC q)).flatten = esc q (bl s))) (fun _ i _ => cs.length - (intOf i).toNat)
  case atStart => exact ⟨0, ⟨#[]⟩, Nat.zero_le _, rfl, rfl, Below.refl _ _, hide (by rw [List.drop_zero]; exact HC.out)⟩
  case round =>
    obtain ⟨k, O, hk, rfl, rfl, hbr, HA⟩ := hrel
    have hOl : O.size ≤ 120000 := by
      have := congrArg List.length HA.out
      rw [List.length_append, bl_len] at this
      omega
    by_cases hlt : k < cs.length
    · obtain ⟨g, rfl, hce⟩ := own_cell hown k (by simpa [strCellsOf] using hlt)
      have hst : ((cs.drop k).map (escC q)).flatten = escC q cs[k] ++ ((cs.drop (k + 1)).map (escC q)).flatten := by
        rw [List.drop_eq_getElem_cons hlt, List.map_cons, List.flatten_cons]
      obtain ⟨C, hC⟩ : ∃ C : ByteArray, C = ⟨cs[k].toArray⟩ := ⟨_, rfl⟩
      have hcv : (strCellsOf cs)[k]'(by simpa [strCellsOf] using hlt) = .string C := by rw [hC]; simp [strCellsOf]
      rw [hcv] at hce
      have hcr := (hbr.cell (p := ⟨g, k, none⟩) (by
        unfold World.cell? at hce
        cases hb : w1.heap[g]? with
        | none => simp only [hb] at hce; simp at hce
        | some o => exact (Array.getElem?_eq_some_iff.1 hb).1)).trans hce
      have hCb : bl C = cs[k] := by rw [hC]
      have hCl : C.size ≤ 20000 := by
        have := HCM.out _ (List.getElem_mem hlt)
        rw [← hCb, bl_len] at this
        omega
      rw [← hCb] at hst
      have HN : ∀ X : ByteArray, bl X = escC q (bl C) → Hid (bl (O ++ X) ++ ((cs.drop (k + 1)).map (escC q)).flatten = esc q (bl s)) := fun X hX => hide (by rw [← HA.out, hst, app_bl, hX, List.append_assoc])
      have HNN := hide HN
      clear hst hC hcv hce HN HA
      have back : C = ⟨(bl C).toArray⟩ := rfl
      by_cases h1 : bl C = [38]
      · have hN := HNN.out ⟨#[38, 97, 109, 112, 59]⟩ (by rw [h1]; rfl)
        have hC2 : C = ⟨#[38]⟩ := by rw [back, h1]
        subst hC2
        clear back HNN hCb
        go_wp2
        exact ⟨⟨k + 1, _, by omega, by first | rfl | simp, rfl, hbr, hN⟩, by simp [intOf]; omega⟩
      have n1 : (C.toList == [38]) = false := by rw [ByteArray.toList_eq]; exact beq_eq_false_iff_ne.2 h1
      by_cases h2 : bl C = [60]
      · have hN := HNN.out ⟨#[38, 108, 116, 59]⟩ (by rw [h2]; rfl)
        have hC2 : C = ⟨#[60]⟩ := by rw [back, h2]
        subst hC2
        clear back HNN hCb
        go_wp2
        exact ⟨⟨k + 1, _, by omega, by first | rfl | simp, rfl, hbr, hN⟩, by simp [intOf]; omega⟩
      have n2 : (C.toList == [60]) = false := by rw [ByteArray.toList_eq]; exact beq_eq_false_iff_ne.2 h2
      by_cases h3 : bl C = [62]
      · have hN := HNN.out ⟨#[38, 103, 116, 59]⟩ (by rw [h3]; rfl)
        have hC2 : C = ⟨#[62]⟩ := by rw [back, h3]
        subst hC2
        clear back HNN hCb
        go_wp2
        exact ⟨⟨k + 1, _, by omega, by first | rfl | simp, rfl, hbr, hN⟩, by simp [intOf]; omega⟩
      have n3 : (C.toList == [62]) = false := by rw [ByteArray.toList_eq]; exact beq_eq_false_iff_ne.2 h3
      by_cases h4 : bl C = [194, 160]
      · have hN := HNN.out ⟨#[38, 110, 98, 115, 112, 59]⟩ (by rw [h4]; rfl)
        have hC2 : C = ⟨#[194, 160]⟩ := by rw [back, h4]
        subst hC2
        clear back HNN hCb h1 h2 h3 n1 n2 n3
        go_wp2_with fail
        refine (char160 _).mono ?_
        rintro e w2 ⟨rfl, hb2⟩
        go_wp2_with fail
        exact ⟨⟨k + 1, _, by omega, by first | rfl | simp, rfl, hbr.trans (hb2.mono hbr.size), hN⟩, by simp [intOf]; omega⟩
      have n4 : (C.toList == [194, 160]) = false := by rw [ByteArray.toList_eq]; exact beq_eq_false_iff_ne.2 h4
      by_cases h5 : bl C = [34]
      · have hC2 : C = ⟨#[34]⟩ := by rw [back, h5]
        cases q
        · have hN := HNN.out ⟨#[34]⟩ (by rw [h5]; rfl)
          subst hC2
          clear back HNN hCb h1 h2 h3 h4 n1 n2 n3 n4
          go_wp2_with fail
          refine (char160 _).mono ?_
          rintro e w2 ⟨rfl, hb2⟩
          go_wp2_with fail
          exact ⟨⟨k + 1, _, by omega, by first | rfl | simp, rfl, hbr.trans (hb2.mono hbr.size), hN⟩, by simp [intOf]; omega⟩
        · have hN := HNN.out ⟨#[38, 113, 117, 111, 116, 59]⟩ (by rw [h5]; rfl)
          subst hC2
          clear back HNN hCb h1 h2 h3 h4 n1 n2 n3 n4
          go_wp2_with fail
          refine (char160 _).mono ?_
          rintro e w2 ⟨rfl, hb2⟩
          go_wp2_with fail
          exact ⟨⟨k + 1, _, by omega, by first | rfl | simp, rfl, hbr.trans (hb2.mono hbr.size), hN⟩, by simp [intOf]; omega⟩
      have n5 : (C.toList == [34]) = false := by rw [ByteArray.toList_eq]; exact beq_eq_false_iff_ne.2 h5
      have hN := HNN.out C (by
        unfold escC
        rw [if_neg h1, if_neg h2, if_neg h3, if_neg h4, if_neg (fun e => h5 e.1)])
      clear back HNN hCb h1 h2 h3 h4 h5
      go_wp2_with fail
      refine (char160 _).mono ?_
      rintro e w2 ⟨rfl, hb2⟩
      go_wp2_with fail
      exact ⟨⟨k + 1, _, by omega, by first | rfl | simp, rfl, hbr.trans (hb2.mono hbr.size), hN⟩, by simp [intOf]; omega⟩
    · go_wp2
      go_ret
      refine ⟨ret_str ?_, hb1.trans (hbr.mono hb1.size)⟩
      rw [← HA.out, List.drop_eq_nil_of_le (by omega)]
      simp

end Go.Proofs.Ytholfdfjapgfbaa
