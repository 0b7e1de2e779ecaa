/-
  The tree's builder: makeWay.
-/
import Derived.Test.YtholfdfjapgfbaaGreatDoorG14
namespace Go.Proofs.YtholfdfjapgfbaaGreatDoor.Dm
open Go.RowKit
open Utf1

theorem addKid_name (p x : Nd) : (addKid p x).name = p.name := by
  cases p
  rfl
theorem closeR_root : ∀ (n : Nat) (r : List Nd) (t : List UInt8), n < r.length → (closeR n r t).1.getLast?.map Nd.name = r.getLast?.map Nd.name
  | 0, r, t, _ => by
    have : closeR 0 r t = (r, t) := by cases r <;> rfl
    rw [this]
  | n + 1, [], t, h => by simp at h
  | n + 1, [_], t, h => by simp at h
  | n + 1, nd :: p :: r, t, h => by
    have ih := closeR_root n (addKid p (textIn nd t) :: r) [] (by simp only [List.length_cons] at h ⊢; omega)
    show (closeR n (addKid p (textIn nd t) :: r) []).1.getLast?.map Nd.name = _
    rw [ih]
    cases r with
    | nil => simp [addKid_name]
    | cons a b => simp
theorem closeIn_root (ns : List (List UInt8)) (r : List Nd) (t : List UInt8) (hr : r ≠ []) : (closeIn ns r t).1.getLast?.map Nd.name = r.getLast?.map Nd.name := by
  have hl := innerR_lt ns r hr
  unfold closeIn
  split
  · exact closeR_root _ r t (by omega)
  · rfl
theorem name_back (l : List UInt8) : (⟨l.toArray⟩ : ByteArray).toList = l := by rw [ByteArray.toList_eq]

set_option maxRecDepth 100000 in
set_option maxHeartbeats 8000000 in
theorem makeWay_st (w : World) (base B : Nat) (r : List Nd) (t : List UInt8) (o n : Nat) (name : ByteArray) (h : St w base B r.reverse t o n) (hr : r ≠ []) (hroot : r.getLast?.map Nd.name = some []) (hM : cntL r + tx t ≤ 100000) (ht : t.length ≤ 100000000) :
    Calls Tryz.prog 56 #[.pointer (some ⟨B, 0, none⟩), .string name] w fun e w' => e = .returned (.tuple #[]) ∧ St w' base B (wayR (bl name) r t).1.reverse (wayR (bl name) r t).2 o n ∧ Below base w w' := by
  have hbl := fun w => block_any name w
  have h1 : 1 ≤ r.length := List.length_pos_iff.2 hr
  have hrl := len_cnt r
  by_cases hblk : bl name ∈ blocks
  case neg =>
    rw [decide_eq_false hblk] at hbl
    have HE : Hid (St w base B (wayR (bl name) r t).1.reverse (wayR (bl name) r t).2 o n) := hide (by
      unfold wayR
      rw [if_neg hblk]
      exact h)
    have HBL := hide hbl
    clear h hbl hblk
    go_enter Tryz.func56, Tryz.ntmps56
    go_wp2_with fail
    refine (HBL.out _).mono ?_
    rintro e w1 ⟨rfl, rfl⟩
    go_wp2_with fail
    refine bodyPost_ret (results_none rfl _ _ _) rfl ?_
    exact ⟨rfl, HE.out, Below.refl _ _⟩
  rw [decide_eq_true hblk] at hbl
  have HBL := hide hbl
  have HI1 := hide (fun ty => inner_lit w base B r t o n [⟨#[112]⟩] #[.string ⟨#[112]⟩] ty rfl h h1 (by omega) (by decide))
  have hall := closeIn_all [[112]] r t hr
  have hroot1 := closeIn_root [[112]] r t hr
  rw [hroot] at hroot1
  have HBW : Hid (base ≤ w.heap.size) := hide (by obtain ⟨_, _, h0, _⟩ := h; exact h0.2.1)
  have HC1 : Hid (∀ ty, 0 < innerR [[112]] r → Calls Tryz.prog 19 #[.pointer (some ⟨B, 0, none⟩), .int .i64 (innerR [[112]] r : Int)] (w.alloc (.cells #[.string ⟨#[112]⟩] ty)) fun e w' => e = .returned (.tuple #[]) ∧ St w' base B (closeIn [[112]] r t).1.reverse (closeIn [[112]] r t).2 o n ∧ Below base w w') := hide (by
    intro ty hpos
    have hlt := innerR_lt [[112]] r hr
    refine (closeFrom_st _ base B (innerR [[112]] r) r t o n (h.under ((Below.refl _ _).alloc (Nat.le_refl _) _)) hpos (by omega) hM ht).mono ?_
    rintro e w' ⟨rfl, q1, q2⟩
    refine ⟨rfl, ?_, ((Below.refl base w).alloc HBW.out _).trans q2⟩
    unfold closeIn
    rw [if_pos hpos]
    exact q1)
  have HN1 : Hid (∀ ty, ¬ 0 < innerR [[112]] r → St (w.alloc (.cells #[.string ⟨#[112]⟩] ty)) base B (closeIn [[112]] r t).1.reverse (closeIn [[112]] r t).2 o n) := hide (by
    intro ty hpos
    unfold closeIn
    rw [if_neg hpos]
    exact h.under ((Below.refl _ _).alloc (Nat.le_refl _) _))
  have HWAY : Hid (wayR (bl name) r t = (if bl name = [108, 105] then (if ((closeIn [[112]] r t).1.reverse[innerR [[108, 105], [117, 108], [111, 108]] (closeIn [[112]] r t).1]?.map Nd.name) = some [108, 105] then closeR ((closeIn [[112]] r t).1.length - innerR [[108, 105], [117, 108], [111, 108]] (closeIn [[112]] r t).1) (closeIn [[112]] r t).1 (closeIn [[112]] r t).2 else closeIn [[112]] r t) else closeIn [[112]] r t)) := hide (by
    unfold wayR
    rw [if_pos hblk])
  obtain ⟨r1, t1, hc1⟩ : ∃ r1 t1, closeIn [[112]] r t = (r1, t1) := ⟨_, _, rfl⟩
  rw [hc1] at hall hroot1 HC1 HN1 HWAY
  obtain ⟨a1, ha1⟩ : ∃ a, a = innerR [[112]] r := ⟨_, rfl⟩
  have HI1 : Hid (∀ ty, Calls Tryz.prog 59 #[.pointer (some ⟨B, 0, none⟩), .slice (some ⟨w.heap.size, 0, none⟩) 1 1] (w.alloc (.cells #[.string ⟨#[112]⟩] ty)) fun e w' => e = .returned (.int .i64 (a1 : Int)) ∧ w' = w.alloc (.cells #[.string ⟨#[112]⟩] ty)) := hide (by rw [ha1]; exact HI1.out)
  rw [← ha1] at HC1 HN1
  obtain ⟨W, hW⟩ : ∃ W, W = wayR (bl name) r t := ⟨_, rfl⟩
  rw [← hW] at HWAY ⊢
  have f0 := eqlit name [108, 105]
  clear h hbl hblk ha1 hc1 hW hroot
  have hall : 1 ≤ r1.length ∧ r1.length ≤ r.length ∧ cntL r1 + tx t1 = cntL r + tx t ∧ t1.length ≤ t.length := hall
  have hroot1 : r1.getLast?.map Nd.name = some [] := hroot1
  obtain ⟨hal1, hal2, hal3, hal4⟩ := id hall
  obtain ⟨a2, ha2⟩ : ∃ a, a = innerR [[108, 105], [117, 108], [111, 108]] r1 := ⟨_, rfl⟩
  rw [← ha2] at HWAY
  have hr1 : r1 ≠ [] := List.length_pos_iff.1 hall.1
  have ha2l : a2 < r1.length := by rw [ha2]; exact innerR_lt _ _ hr1
  have hr1l := len_cnt r1
  have HI2 : Hid (∀ (wx : World) (ty : TypeId), St wx base B r1.reverse t1 o n → Calls Tryz.prog 59 #[.pointer (some ⟨B, 0, none⟩), .slice (some ⟨wx.heap.size, 0, none⟩) 3 3] (wx.alloc (.cells #[.string ⟨#[108, 105]⟩, .string ⟨#[117, 108]⟩, .string ⟨#[111, 108]⟩] ty)) fun e w' => e = .returned (.int .i64 (a2 : Int)) ∧ w' = wx.alloc (.cells #[.string ⟨#[108, 105]⟩, .string ⟨#[117, 108]⟩, .string ⟨#[111, 108]⟩] ty)) := hide (by
    intro wx ty hx
    rw [ha2]
    exact inner_lit wx base B r1 t1 o n [⟨#[108, 105]⟩, ⟨#[117, 108]⟩, ⟨#[111, 108]⟩] _ ty rfl hx hall.1 (by omega) (by decide))
  have hget : r1.reverse[a2]? = some (r1.reverse[a2]'(by rw [List.length_reverse]; exact ha2l)) := List.getElem?_eq_getElem _
  generalize r1.reverse[a2]'(by rw [List.length_reverse]; exact ha2l) = nd2 at hget
  rw [hget] at HWAY
  have hpos2 : nd2.name = [108, 105] → 1 ≤ a2 := by
    intro hn
    refine Nat.pos_of_ne_zero fun e => ?_
    subst e
    have h2 : r1.getLast? = some nd2 := by
      rw [← List.head?_reverse, List.head?_eq_getElem?]
      exact hget
    rw [h2] at hroot1
    have : nd2.name = [] := by simpa using hroot1
    rw [this] at hn
    cases hn
  have HN2 : Hid (∀ (wx : World) (ty : TypeId), St wx base B r1.reverse t1 o n → ∃ go oc, (wx.alloc (.cells #[.string ⟨#[108, 105]⟩, .string ⟨#[117, 108]⟩, .string ⟨#[111, 108]⟩] ty)).cell? ⟨B, 0, none⟩ = some (.slice (some ⟨go, 0, none⟩) r1.length oc) ∧ (wx.alloc (.cells #[.string ⟨#[108, 105]⟩, .string ⟨#[117, 108]⟩, .string ⟨#[111, 108]⟩] ty)).cell? ⟨go, a2 * 4, none⟩ = some (.string ⟨nd2.name.toArray⟩)) := hide (by
    intro wx ty hx
    obtain ⟨pa, bv, h0, _⟩ := hx.under ((Below.refl _ _).alloc (Nat.le_refl _) (.cells #[.string ⟨#[108, 105]⟩, .string ⟨#[117, 108]⟩, .string ⟨#[111, 108]⟩] ty))
    obtain ⟨go, oc, hB, hnm⟩ := h0.name_at (by rw [List.length_reverse]; exact hall.1)
    rw [List.length_reverse] at hB
    exact ⟨go, oc, tag_cell hB 0 _ rfl, hnm a2 nd2 hget⟩)
  have HC2 : Hid (∀ (wx : World) (ty : TypeId), St wx base B r1.reverse t1 o n → Below base w wx → nd2.name = [108, 105] → Calls Tryz.prog 19 #[.pointer (some ⟨B, 0, none⟩), .int .i64 (a2 : Int)] (wx.alloc (.cells #[.string ⟨#[108, 105]⟩, .string ⟨#[117, 108]⟩, .string ⟨#[111, 108]⟩] ty)) fun e w' => e = .returned (.tuple #[]) ∧ St w' base B (closeR (r1.length - a2) r1 t1).1.reverse (closeR (r1.length - a2) r1 t1).2 o n ∧ Below base w w') := hide (by
    intro wx ty hx hbx hn
    refine (closeFrom_st _ base B a2 r1 t1 o n (hx.under ((Below.refl _ _).alloc (Nat.le_refl _) _)) (hpos2 hn) (by omega) (by omega) (by omega)).mono ?_
    rintro e w' ⟨rfl, q1, q2⟩
    refine ⟨rfl, q1, (hbx.alloc ?_ _).trans q2⟩
    obtain ⟨_, _, h0, _⟩ := hx
    exact h0.2.1)
  have HBA : Hid (∀ (wx : World) (ty : TypeId), St wx base B r1.reverse t1 o n → Below base w wx → St (wx.alloc (.cells #[.string ⟨#[108, 105]⟩, .string ⟨#[117, 108]⟩, .string ⟨#[111, 108]⟩] ty)) base B r1.reverse t1 o n ∧ Below base w (wx.alloc (.cells #[.string ⟨#[108, 105]⟩, .string ⟨#[117, 108]⟩, .string ⟨#[111, 108]⟩] ty))) := hide (by
    intro wx ty hx hbx
    refine ⟨hx.under ((Below.refl _ _).alloc (Nat.le_refl _) _), hbx.alloc ?_ _⟩
    obtain ⟨_, _, h0, _⟩ := hx
    exact h0.2.1)
  have HF2 := hide (eqlit ⟨nd2.name.toArray⟩ [108, 105])
  have HPOS2 := hide hpos2
  clear ha2 hget hpos2 hroot1 hall hal3
  by_cases hpos : 0 < a1
  · have hdp : decide ((0 : Int) < (a1 : Int)) = true := decide_eq_true (by omega)
    have HCC := hide (fun ty => HC1.out ty hpos)
    clear HC1 HN1
    go_enter Tryz.func56, Tryz.ntmps56
    go_wp2_with fail
    refine (HBL.out _).mono ?_
    rintro e w0 ⟨rfl, rfl⟩
    go_wp2_with fail
    refine (HI1.out _).mono ?_
    rintro e w1 ⟨rfl, rfl⟩
    go_wp2_with fail
    refine (HCC.out _).mono ?_
    rintro e wx ⟨rfl, s1, s2⟩
    have HSX := hide (And.intro s1 s2)
    clear s1 s2 HCC HI1 HBL
    by_cases hli : bl name = [108, 105]
    · rw [decide_eq_true hli] at f0
      have f1 : (name.toList != [108, 105]) = false := by
        show (!(name.toList == [108, 105])) = false
        rw [f0]
        rfl
      have hw := HWAY.out
      rw [if_pos hli] at hw
      simp only [Option.map_some, Option.some.injEq] at hw
      have HW2 := hide hw
      obtain ⟨go, oc, hg0, hg1⟩ := HN2.out wx 9 HSX.out.1
      have hg0 : (wx.alloc (.cells #[.string ⟨#[108, 105]⟩, .string ⟨#[117, 108]⟩, .string ⟨#[111, 108]⟩] 9)).cell? ⟨B, 0, none⟩ = some (.slice (some ⟨go, 0, none⟩) r1.length oc) := hg0
      have f2 := HF2.out
      clear hw hli HWAY HN2
      by_cases hn2 : nd2.name = [108, 105]
      · have f2 : ((⟨nd2.name.toArray⟩ : ByteArray).toList == [108, 105]) = true := by rw [f2]; exact decide_eq_true hn2
        have HE := hide (HC2.out wx 9 HSX.out.1 HSX.out.2 hn2)
        have hw := HW2.out
        rw [if_pos hn2] at hw
        have HW3 := hide hw
        obtain ⟨NB, hNB⟩ : ∃ X : ByteArray, X = ⟨nd2.name.toArray⟩ := ⟨_, rfl⟩
        rw [← hNB] at hg1 f2
        clear hw hn2 hNB HW2 HC2
        go_wp2_with fail
        refine (HI2.out _ _ HSX.out.1).mono ?_
        rintro e wy ⟨rfl, rfl⟩
        go_wp2_with fail
        refine HE.out.mono ?_
        rintro e wz ⟨rfl, z1, z2⟩
        have HZ := hide (And.intro z1 z2)
        clear z1 z2 HE
        go_wp2_with fail
        go_end0
        rw [HW3.out]
        exact ⟨rfl, HZ.out⟩
      · have f2 : ((⟨nd2.name.toArray⟩ : ByteArray).toList == [108, 105]) = false := by rw [f2]; exact decide_eq_false hn2
        have hw := HW2.out
        rw [if_neg hn2] at hw
        have HW3 := hide hw
        have HE := hide (HBA.out wx 9 HSX.out.1 HSX.out.2)
        obtain ⟨NB, hNB⟩ : ∃ X : ByteArray, X = ⟨nd2.name.toArray⟩ := ⟨_, rfl⟩
        rw [← hNB] at hg1 f2
        clear hw hn2 hNB HW2 HC2
        go_wp2_with fail
        refine (HI2.out _ _ HSX.out.1).mono ?_
        rintro e wy ⟨rfl, rfl⟩
        go_wp2_with fail
        go_end0
        rw [HW3.out]
        exact ⟨rfl, HE.out⟩
    · rw [decide_eq_false hli] at f0
      have f1 : (name.toList != [108, 105]) = true := by
        show (!(name.toList == [108, 105])) = true
        rw [f0]
        rfl
      have hw := HWAY.out
      rw [if_neg hli] at hw
      have HW2 := hide hw
      clear hw hli HWAY HN2 HC2
      go_wp2_with fail
      refine bodyPost_ret (results_none rfl _ _ _) rfl ?_
      rw [HW2.out]
      exact ⟨rfl, HSX.out⟩
  · have hdp : decide ((0 : Int) < (a1 : Int)) = false := decide_eq_false (by omega)
    have HNN := hide (fun ty => HN1.out ty hpos)
    clear HC1 HN1
    go_enter Tryz.func56, Tryz.ntmps56
    go_wp2_with fail
    refine (HBL.out _).mono ?_
    rintro e w0 ⟨rfl, rfl⟩
    go_wp2_with fail
    refine (HI1.out _).mono ?_
    rintro e w1 ⟨rfl, rfl⟩
    have HSX0 := hide (And.intro (HNN.out 9) ((Below.refl base w0).alloc HBW.out (.cells #[.string ⟨#[112]⟩] 9)))
    obtain ⟨wx, hwx⟩ : ∃ wx, wx = w0.alloc (.cells #[.string ⟨#[112]⟩] 9) := ⟨_, rfl⟩
    rw [← hwx] at HSX0
    have HSX := HSX0
    clear HNN HI1 HBL HSX0
    rw [← hwx]
    clear hwx
    by_cases hli : bl name = [108, 105]
    · rw [decide_eq_true hli] at f0
      have f1 : (name.toList != [108, 105]) = false := by
        show (!(name.toList == [108, 105])) = false
        rw [f0]
        rfl
      have hw := HWAY.out
      rw [if_pos hli] at hw
      simp only [Option.map_some, Option.some.injEq] at hw
      have HW2 := hide hw
      obtain ⟨go, oc, hg0, hg1⟩ := HN2.out wx 9 HSX.out.1
      have hg0 : (wx.alloc (.cells #[.string ⟨#[108, 105]⟩, .string ⟨#[117, 108]⟩, .string ⟨#[111, 108]⟩] 9)).cell? ⟨B, 0, none⟩ = some (.slice (some ⟨go, 0, none⟩) r1.length oc) := hg0
      have f2 := HF2.out
      clear hw hli HWAY HN2
      by_cases hn2 : nd2.name = [108, 105]
      · have f2 : ((⟨nd2.name.toArray⟩ : ByteArray).toList == [108, 105]) = true := by rw [f2]; exact decide_eq_true hn2
        have HE := hide (HC2.out wx 9 HSX.out.1 HSX.out.2 hn2)
        have hw := HW2.out
        rw [if_pos hn2] at hw
        have HW3 := hide hw
        obtain ⟨NB, hNB⟩ : ∃ X : ByteArray, X = ⟨nd2.name.toArray⟩ := ⟨_, rfl⟩
        rw [← hNB] at hg1 f2
        clear hw hn2 hNB HW2 HC2
        go_wp2_with fail
        refine (HI2.out _ _ HSX.out.1).mono ?_
        rintro e wy ⟨rfl, rfl⟩
        go_wp2_with fail
        refine HE.out.mono ?_
        rintro e wz ⟨rfl, z1, z2⟩
        have HZ := hide (And.intro z1 z2)
        clear z1 z2 HE
        go_wp2_with fail
        go_end0
        rw [HW3.out]
        exact ⟨rfl, HZ.out⟩
      · have f2 : ((⟨nd2.name.toArray⟩ : ByteArray).toList == [108, 105]) = false := by rw [f2]; exact decide_eq_false hn2
        have hw := HW2.out
        rw [if_neg hn2] at hw
        have HW3 := hide hw
        have HE := hide (HBA.out wx 9 HSX.out.1 HSX.out.2)
        obtain ⟨NB, hNB⟩ : ∃ X : ByteArray, X = ⟨nd2.name.toArray⟩ := ⟨_, rfl⟩
        rw [← hNB] at hg1 f2
        clear hw hn2 hNB HW2 HC2
        go_wp2_with fail
        refine (HI2.out _ _ HSX.out.1).mono ?_
        rintro e wy ⟨rfl, rfl⟩
        go_wp2_with fail
        go_end0
        rw [HW3.out]
        exact ⟨rfl, HE.out⟩
    · rw [decide_eq_false hli] at f0
      have f1 : (name.toList != [108, 105]) = true := by
        show (!(name.toList == [108, 105])) = true
        rw [f0]
        rfl
      have hw := HWAY.out
      rw [if_neg hli] at hw
      have HW2 := hide hw
      clear hw hli HWAY HN2 HC2
      go_wp2_with fail
      refine bodyPost_ret (results_none rfl _ _ _) rfl ?_
      rw [HW2.out]
      exact ⟨rfl, HSX.out⟩
end Go.Proofs.YtholfdfjapgfbaaGreatDoor.Dm
