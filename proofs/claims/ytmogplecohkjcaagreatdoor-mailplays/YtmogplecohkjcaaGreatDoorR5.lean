/-
  The program's own Right.
-/
import Derived.Test.YtmogplecohkjcaaGreatDoorRZ
import Derived.Test.YtmogplecohkjcaaGreatDoorR4
import Derived.Test.YtmogplecohkjcaaGreatDoorPC
namespace Go.Proofs.YtmogplecohkjcaaGreatDoor
open Go.RowKit
open Utf1 Pol8

def fE (x : L) : Bool := isWord x && !never x
def fS (x : L) : Bool := isWord x && decide (x ≠ js ∧ x ≠ dat ∧ x ≠ vbs)
def rl (f : L → Bool) (l : List L) : Bool := rises l && l.all f
def itm (l : List L) : Bool := decide (li ∈ l → ul ∈ l ∧ ol ∈ l)
def capOk (a b c : Int) : Bool := decide ((1 ≤ a ∧ a ≤ 64) ∧ (1 ≤ b ∧ b ≤ 2000) ∧ (1 ≤ c ∧ c ≤ 16384))
def epOk (a : Int) : Bool := decide (1 ≤ a ∧ a ≤ 1000000)
theorem epOk_no {a : Int} (h : a < 1 ∨ 1000000 < a) : epOk a = false := decide_eq_false (by omega)
theorem epOk_yes {a : Int} (h : 1 ≤ a ∧ a ≤ 1000000) : epOk a = true := decide_eq_true h
theorem right_prog (p : Pol) : right p = (epOk p.ep && (capOk p.dp p.nd p.bt && (rl fE p.el && (itm p.el && (rl (attrOk p.el) p.at_ && (rl fS p.sc && (rl isWord p.cl && rl isWord p.pr))))))) := by
  apply Bool.eq_iff_iff.2
  unfold right caps words epOk capOk itm rl fE fS
  simp only [Bool.and_eq_true, decide_eq_true_eq, List.all_eq_true, Bool.not_eq_true']
  constructor
  · rintro ⟨⟨h1, h2⟩, ⟨⟨a1, a2⟩, b2, ⟨c1, c2⟩, ⟨d1, d2⟩, ⟨e1, e2⟩⟩, f1, f2, f3, g1, g2, g3⟩
    exact ⟨h1, h2, ⟨a2, fun x hx => ⟨a1 x hx, f1 x hx⟩⟩, f3, ⟨b2, f2⟩, ⟨c2, fun x hx => ⟨c1 x hx, fun e => g1 (e ▸ hx), fun e => g2 (e ▸ hx), fun e => g3 (e ▸ hx)⟩⟩, ⟨d2, d1⟩, ⟨e2, e1⟩⟩
  · rintro ⟨h1, h2, ⟨a2, a1⟩, f3, ⟨b2, f2⟩, ⟨c2, c1⟩, ⟨d2, d1⟩, ⟨e2, e1⟩⟩
    exact ⟨⟨h1, h2⟩, ⟨⟨fun x hx => (a1 x hx).1, a2⟩, b2, ⟨fun x hx => (c1 x hx).1, c2⟩, ⟨d1, d2⟩, ⟨e1, e2⟩⟩, fun x hx => (a1 x hx).2, f2, f3, fun hm => (c1 _ hm).2.1 rfl, fun hm => (c1 _ hm).2.2.1 rfl, fun hm => (c1 _ hm).2.2.2 rfl⟩

set_option maxRecDepth 100000 in
set_option maxHeartbeats 8000000 in
theorem pitems_any (a0 : Int) (v1 v2 v3 v4 v5 : Value) (a6 a7 a8 : Int) (ss : List ByteArray) (hl : ss.length ≤ 100000) (w : World) (hv : StrArg w v1 ss) :
    Calls Tryz.prog 57 #[pvalL a0 v1 v2 v3 v4 v5 a6 a7 a8] w fun e w' => e = .returned (.bool (decide (li ∈ ss.map bl → ul ∈ ss.map bl ∧ ol ∈ ss.map bl))) ∧ Below w.heap.size w w' := by
  obtain ⟨w1, hw1⟩ : ∃ w1, w1 = w.alloc (.cells #[.int .i64 a0, v1, v2, v3, v4, v5, .int .i64 a6, .int .i64 a7, .int .i64 a8] 33) := ⟨_, rfl⟩
  have HN : Hid (BoxP w #[.int .i64 a0, v1, v2, v3, v4, v5, .int .i64 a6, .int .i64 a7, .int .i64 a8] w1) := hide (by rw [hw1]; exact ⟨new_block _ _ _, bel_alloc (Below.refl _ _) _⟩)
  have CE : Hid (∀ (X : ByteArray) wx, BoxP w #[.int .i64 a0, v1, v2, v3, v4, v5, .int .i64 a6, .int .i64 a7, .int .i64 a8] wx → Calls Tryz.prog 50 #[pvalL a0 v1 v2 v3 v4 v5 a6 a7 a8, .string X] wx fun e w' => e = .returned (.bool (decide (bl X ∈ ss.map bl))) ∧ BoxP w #[.int .i64 a0, v1, v2, v3, v4, v5, .int .i64 a6, .int .i64 a7, .int .i64 a8] w') := hide (fun X wx h => (pelem_any a0 v1 v2 v3 v4 v5 a6 a7 a8 X ss hl wx (hv.below h.2)).mono fun e w' ⟨h1, h2⟩ => ⟨h1, h.keep h2⟩)
  have C1 := hide (CE.out ⟨#[108, 105]⟩)
  have C2 := hide (CE.out ⟨#[117, 108]⟩)
  have C3 := hide (CE.out ⟨#[111, 108]⟩)
  have HE : Hid (decide (li ∈ ss.map bl → ul ∈ ss.map bl ∧ ol ∈ ss.map bl) = (!decide (bl ⟨#[108, 105]⟩ ∈ ss.map bl) || (decide (bl ⟨#[117, 108]⟩ ∈ ss.map bl) && decide (bl ⟨#[111, 108]⟩ ∈ ss.map bl)))) := hide (by
    show decide (li ∈ ss.map bl → ul ∈ ss.map bl ∧ ol ∈ ss.map bl) = (!decide (li ∈ ss.map bl) || (decide (ul ∈ ss.map bl) && decide (ol ∈ ss.map bl)))
    apply Bool.eq_iff_iff.2
    simp only [decide_eq_true_eq, Bool.or_eq_true, Bool.and_eq_true, Bool.not_eq_true', decide_eq_false_iff_not]
    constructor
    · intro h
      by_cases hm : li ∈ ss.map bl
      · exact .inr (h hm)
      · exact .inl hm
    · rintro (h | h) hm
      · exact absurd hm h
      · exact h)
  rw [HE.out]
  have SK : Hid (∀ wx, BoxP w #[.int .i64 a0, v1, v2, v3, v4, v5, .int .i64 a6, .int .i64 a7, .int .i64 a8] wx → wx.cell? ⟨w.heap.size, 0, none⟩ = some (.int .i64 a0) ∧ wx.cell? ⟨w.heap.size, 1, none⟩ = some v1 ∧ wx.cell? ⟨w.heap.size, 2, none⟩ = some v2 ∧ wx.cell? ⟨w.heap.size, 3, none⟩ = some v3 ∧ wx.cell? ⟨w.heap.size, 4, none⟩ = some v4 ∧ wx.cell? ⟨w.heap.size, 5, none⟩ = some v5 ∧ wx.cell? ⟨w.heap.size, 6, none⟩ = some (.int .i64 a6) ∧ wx.cell? ⟨w.heap.size, 7, none⟩ = some (.int .i64 a7) ∧ wx.cell? ⟨w.heap.size, 8, none⟩ = some (.int .i64 a8)) := hide (fun wx h => ⟨h.cell 0 _ rfl, h.cell 1 _ rfl, h.cell 2 _ rfl, h.cell 3 _ rfl, h.cell 4 _ rfl, h.cell 5 _ rfl, h.cell 6 _ rfl, h.cell 7 _ rfl, h.cell 8 _ rfl⟩)
  clear hv HE CE
  generalize decide (bl ⟨#[108, 105]⟩ ∈ ss.map bl) = t1 at C1 ⊢
  generalize decide (bl ⟨#[117, 108]⟩ ∈ ss.map bl) = t2 at C2 ⊢
  generalize decide (bl ⟨#[111, 108]⟩ ∈ ss.map bl) = t3 at C3 ⊢
  cases t1 with
  | false =>
    go_enter Tryz.func57, Tryz.ntmps57
    go_upto_region 1 with fail
    rw [← hw1]
    clear hw1
    obtain ⟨y0, y1, y2, y3, y4, y5, y6, y7, y8⟩ := SK.out _ HN.out
    go_wp2_with fail
    refine (C1.out _ HN.out).mono ?_
    rintro e w2 ⟨rfl, h2⟩
    have H2 := hide h2
    clear h2 y0 y1 y2 y3 y4 y5 y6 y7 y8
    go_wp2_with fail
    go_ret
    exact ⟨rfl, H2.out.2⟩
  | true =>
    cases t2 with
    | false =>
      go_enter Tryz.func57, Tryz.ntmps57
      go_upto_region 1 with fail
      rw [← hw1]
      clear hw1
      obtain ⟨y0, y1, y2, y3, y4, y5, y6, y7, y8⟩ := SK.out _ HN.out
      go_wp2_with fail
      refine (C1.out _ HN.out).mono ?_
      rintro e w2 ⟨rfl, h2⟩
      have H2 := hide h2
      clear h2 y0 y1 y2 y3 y4 y5 y6 y7 y8
      obtain ⟨y0, y1, y2, y3, y4, y5, y6, y7, y8⟩ := SK.out _ H2.out
      go_wp2_with fail
      refine (C2.out _ H2.out).mono ?_
      rintro e w3 ⟨rfl, h3⟩
      have H3 := hide h3
      clear h3 y0 y1 y2 y3 y4 y5 y6 y7 y8
      go_wp2_with fail
      go_ret
      exact ⟨rfl, H3.out.2⟩
    | true =>
      go_enter Tryz.func57, Tryz.ntmps57
      go_upto_region 1 with fail
      rw [← hw1]
      clear hw1
      obtain ⟨y0, y1, y2, y3, y4, y5, y6, y7, y8⟩ := SK.out _ HN.out
      go_wp2_with fail
      refine (C1.out _ HN.out).mono ?_
      rintro e w2 ⟨rfl, h2⟩
      have H2 := hide h2
      clear h2 y0 y1 y2 y3 y4 y5 y6 y7 y8
      obtain ⟨y0, y1, y2, y3, y4, y5, y6, y7, y8⟩ := SK.out _ H2.out
      go_wp2_with fail
      refine (C2.out _ H2.out).mono ?_
      rintro e w3 ⟨rfl, h3⟩
      have H3 := hide h3
      clear h3 y0 y1 y2 y3 y4 y5 y6 y7 y8
      obtain ⟨y0, y1, y2, y3, y4, y5, y6, y7, y8⟩ := SK.out _ H3.out
      go_wp2_with fail
      refine (C3.out _ H3.out).mono ?_
      rintro e w4 ⟨rfl, h4⟩
      have H4 := hide h4
      clear h4 y0 y1 y2 y3 y4 y5 y6 y7 y8
      clear C1 C2 C3 SK HN H2 H3
      cases t3
      all_goals
        go_wp2_with fail
        go_ret
        exact ⟨rfl, H4.out.2⟩

theorem tells_elem (w : World) : Tells 56 #[] fE w := fun W x hx _ => (pelemOk_any x (by omega) W).mono fun _ _ ⟨h1, h2⟩ => ⟨h1, h2 ▸ Below.refl _ _⟩
theorem tells_scheme (w : World) : Tells 58 #[] fS w := fun W x hx _ => (pscheme_any x (by omega) W).mono fun _ _ ⟨h1, h2⟩ => ⟨h1, h2 ▸ Below.refl _ _⟩
theorem tells_word (w : World) : Tells 51 #[] isWord w := fun W x hx _ => (pword_any x (by omega) W).mono fun _ _ ⟨h1, h2⟩ => ⟨h1, h2 ▸ Below.refl _ _⟩
theorem ent_elem : ∀ args w, (callFunc 56 args).run Tryz.prog w = .ok (.enter 56 args) w := enters_of Tryz.func56 (by kernel_rfl) rfl
theorem ent_scheme : ∀ args w, (callFunc 58 args).run Tryz.prog w = .ok (.enter 58 args) w := enters_of Tryz.func58 (by kernel_rfl) rfl
theorem ent_word : ∀ args w, (callFunc 51 args).run Tryz.prog w = .ok (.enter 51 args) w := enters_of Tryz.func51 (by kernel_rfl) rfl
theorem ent_attr : ∀ args w, (callFunc 48 args).run Tryz.prog w = .ok (.enter 48 args) w := enters_of Tryz.func48 (by kernel_rfl) rfl

theorem tells_attr (B : Nat) (a0 : Int) (v1 v2 v3 v4 v5 : Value) (a6 a7 a8 : Int) (ss : List ByteArray) (hl : ss.length ≤ 100000) (w : World) (hbx : BoxR B #[.int .i64 a0, v1, v2, v3, v4, v5, .int .i64 a6, .int .i64 a7, .int .i64 a8] w) (hv : StrArg w v1 ss) : Tells 48 #[.pointer (some ⟨B, 0, none⟩)] (attrOk (ss.map bl)) w := by
  intro W x hx hb
  rw [show (#[.string x] ++ #[.pointer (some ⟨B, 0, none⟩)] : Array Value) = #[.string x, .pointer (some ⟨B, 0, none⟩)] by simp]
  exact pattr_any B a0 v1 v2 v3 v4 v5 a6 a7 a8 ss hl x hx W (hbx.keep hb) (hv.below hb)

set_option maxRecDepth 100000 in
set_option maxHeartbeats 32000000 in
theorem pright_any : RightC := by
  intro v1 v2 v3 v4 v5 p l1 l2 l3 l4 l5 w hv hf
  obtain ⟨f1, z1⟩ := fits_of hf (by simp) hv.e1
  obtain ⟨f2, z2⟩ := fits_of hf (by simp) hv.e2
  obtain ⟨f3, z3⟩ := fits_of hf (by simp) hv.e3
  obtain ⟨f4, z4⟩ := fits_of hf (by simp) hv.e4
  obtain ⟨f5, z5⟩ := fits_of hf (by simp) hv.e5
  obtain ⟨R, hR⟩ : ∃ R, R = right p := ⟨_, rfl⟩
  rw [← hR]
  have HAL : Hid (R = (epOk p.ep && (capOk p.dp p.nd p.bt && ((rl fE (l1.map bl)) && (itm (l1.map bl) && ((rl (attrOk (l1.map bl)) (l2.map bl)) && ((rl fS (l3.map bl)) && ((rl isWord (l4.map bl)) && (rl isWord (l5.map bl)))))))))) := hide (by
    rw [hv.e1, hv.e2, hv.e3, hv.e4, hv.e5, hR]
    exact right_prog p)
  show Calls Tryz.prog 38 #[pvalL p.ep v1 v2 v3 v4 v5 p.dp p.nd p.bt] w _
  generalize p.ep = a0 at HAL ⊢
  generalize p.dp = a6 at HAL ⊢
  generalize p.nd = a7 at HAL ⊢
  generalize p.bt = a8 at HAL ⊢
  obtain ⟨w1, hw1⟩ : ∃ w1, w1 = w.alloc (.cells #[.int .i64 a0, v1, v2, v3, v4, v5, .int .i64 a6, .int .i64 a7, .int .i64 a8] 33) := ⟨_, rfl⟩
  have HN : Hid (BoxP w #[.int .i64 a0, v1, v2, v3, v4, v5, .int .i64 a6, .int .i64 a7, .int .i64 a8] w1) := hide (by rw [hw1]; exact ⟨new_block _ _ _, bel_alloc (Below.refl _ _) _⟩)
  have SK : Hid (∀ wx, BoxP w #[.int .i64 a0, v1, v2, v3, v4, v5, .int .i64 a6, .int .i64 a7, .int .i64 a8] wx → wx.cell? ⟨w.heap.size, 0, none⟩ = some (.int .i64 a0) ∧ wx.cell? ⟨w.heap.size, 1, none⟩ = some v1 ∧ wx.cell? ⟨w.heap.size, 2, none⟩ = some v2 ∧ wx.cell? ⟨w.heap.size, 3, none⟩ = some v3 ∧ wx.cell? ⟨w.heap.size, 4, none⟩ = some v4 ∧ wx.cell? ⟨w.heap.size, 5, none⟩ = some v5 ∧ wx.cell? ⟨w.heap.size, 6, none⟩ = some (.int .i64 a6) ∧ wx.cell? ⟨w.heap.size, 7, none⟩ = some (.int .i64 a7) ∧ wx.cell? ⟨w.heap.size, 8, none⟩ = some (.int .i64 a8)) := hide (fun wx h => ⟨h.cell 0 _ rfl, h.cell 1 _ rfl, h.cell 2 _ rfl, h.cell 3 _ rfl, h.cell 4 _ rfl, h.cell 5 _ rfl, h.cell 6 _ rfl, h.cell 7 _ rfl, h.cell 8 _ rfl⟩)
  have CC : Hid (∀ wx, BoxP w #[.int .i64 a0, v1, v2, v3, v4, v5, .int .i64 a6, .int .i64 a7, .int .i64 a8] wx → Calls Tryz.prog 53 #[pvalL a0 v1 v2 v3 v4 v5 a6 a7 a8] wx fun e w' => e = .returned (capV a6 a7 a8) ∧ BoxP w #[.int .i64 a0, v1, v2, v3, v4, v5, .int .i64 a6, .int .i64 a7, .int .i64 a8] w') := hide (fun wx h => (pcaps_any a0 v1 v2 v3 v4 v5 a6 a7 a8 wx).mono fun e w' ⟨h1, h2⟩ => ⟨h1, h.keep h2⟩)
  have C1 : Hid (∀ wx, BoxP w #[.int .i64 a0, v1, v2, v3, v4, v5, .int .i64 a6, .int .i64 a7, .int .i64 a8] wx → Calls Tryz.prog 54 #[capV a6 a7 a8] wx fun e w' => e = .returned (.bool (capOk a6 a7 a8)) ∧ BoxP w #[.int .i64 a0, v1, v2, v3, v4, v5, .int .i64 a6, .int .i64 a7, .int .i64 a8] w') := hide (fun wx h => (pmayBe_any a6 a7 a8 wx).mono fun e w' ⟨h1, h2⟩ => ⟨h1, h.keep h2⟩)
  have C2 : Hid (∀ wx, BoxP w #[.int .i64 a0, v1, v2, v3, v4, v5, .int .i64 a6, .int .i64 a7, .int .i64 a8] wx → Calls Tryz.prog 55 #[v1, .func (.func 56) #[] #[]] wx fun e w' => e = .returned (.bool (rl fE (l1.map bl))) ∧ BoxP w #[.int .i64 a0, v1, v2, v3, v4, v5, .int .i64 a6, .int .i64 a7, .int .i64 a8] w') := hide (fun wx h => (prights_any _ _ ent_elem fE v1 l1 f1 z1 wx (hv.s1.below h.2) (tells_elem wx)).mono fun e w' ⟨h1, h2⟩ => ⟨h1, h.keep h2⟩)
  have C3 : Hid (∀ wx, BoxP w #[.int .i64 a0, v1, v2, v3, v4, v5, .int .i64 a6, .int .i64 a7, .int .i64 a8] wx → Calls Tryz.prog 57 #[pvalL a0 v1 v2 v3 v4 v5 a6 a7 a8] wx fun e w' => e = .returned (.bool (itm (l1.map bl))) ∧ BoxP w #[.int .i64 a0, v1, v2, v3, v4, v5, .int .i64 a6, .int .i64 a7, .int .i64 a8] w') := hide (fun wx h => (pitems_any a0 v1 v2 v3 v4 v5 a6 a7 a8 l1 f1 wx (hv.s1.below h.2)).mono fun e w' ⟨h1, h2⟩ => ⟨h1, h.keep h2⟩)
  have C4 : Hid (∀ wx, BoxP w #[.int .i64 a0, v1, v2, v3, v4, v5, .int .i64 a6, .int .i64 a7, .int .i64 a8] wx → Calls Tryz.prog 55 #[v2, .func (.func 48) #[] #[.pointer (some ⟨w.heap.size, 0, none⟩)]] wx fun e w' => e = .returned (.bool (rl (attrOk (l1.map bl)) (l2.map bl))) ∧ BoxP w #[.int .i64 a0, v1, v2, v3, v4, v5, .int .i64 a6, .int .i64 a7, .int .i64 a8] w') := hide (fun wx h => (prights_any _ _ ent_attr (attrOk (l1.map bl)) v2 l2 f2 z2 wx (hv.s2.below h.2) (tells_attr w.heap.size a0 v1 v2 v3 v4 v5 a6 a7 a8 l1 f1 wx h.1 (hv.s1.below h.2))).mono fun e w' ⟨h1, h2⟩ => ⟨h1, h.keep h2⟩)
  have C5 : Hid (∀ wx, BoxP w #[.int .i64 a0, v1, v2, v3, v4, v5, .int .i64 a6, .int .i64 a7, .int .i64 a8] wx → Calls Tryz.prog 55 #[v3, .func (.func 58) #[] #[]] wx fun e w' => e = .returned (.bool (rl fS (l3.map bl))) ∧ BoxP w #[.int .i64 a0, v1, v2, v3, v4, v5, .int .i64 a6, .int .i64 a7, .int .i64 a8] w') := hide (fun wx h => (prights_any _ _ ent_scheme fS v3 l3 f3 z3 wx (hv.s3.below h.2) (tells_scheme wx)).mono fun e w' ⟨h1, h2⟩ => ⟨h1, h.keep h2⟩)
  have C6 : Hid (∀ wx, BoxP w #[.int .i64 a0, v1, v2, v3, v4, v5, .int .i64 a6, .int .i64 a7, .int .i64 a8] wx → Calls Tryz.prog 55 #[v4, .func (.func 51) #[] #[]] wx fun e w' => e = .returned (.bool (rl isWord (l4.map bl))) ∧ BoxP w #[.int .i64 a0, v1, v2, v3, v4, v5, .int .i64 a6, .int .i64 a7, .int .i64 a8] w') := hide (fun wx h => (prights_any _ _ ent_word isWord v4 l4 f4 z4 wx (hv.s4.below h.2) (tells_word wx)).mono fun e w' ⟨h1, h2⟩ => ⟨h1, h.keep h2⟩)
  have C7 : Hid (∀ wx, BoxP w #[.int .i64 a0, v1, v2, v3, v4, v5, .int .i64 a6, .int .i64 a7, .int .i64 a8] wx → Calls Tryz.prog 55 #[v5, .func (.func 51) #[] #[]] wx fun e w' => e = .returned (.bool (rl isWord (l5.map bl))) ∧ BoxP w #[.int .i64 a0, v1, v2, v3, v4, v5, .int .i64 a6, .int .i64 a7, .int .i64 a8] w') := hide (fun wx h => (prights_any _ _ ent_word isWord v5 l5 f5 z5 wx (hv.s5.below h.2) (tells_word wx)).mono fun e w' ⟨h1, h2⟩ => ⟨h1, h.keep h2⟩)
  have hmf : ∀ (fn : Fn) (first cap : Array Value) (w : World), (Instr.makeFunc fn first cap).run Tryz.prog w = .ok (.func fn first cap) w := fun _ _ _ _ => rfl
  clear hv hf hR z1 z2 z3 z4 z5 f1 f2 f3 f4 f5
  generalize capOk a6 a7 a8 = t1 at C1 HAL
  generalize (rl fE (l1.map bl)) = t2 at C2 HAL
  generalize itm (l1.map bl) = t3 at C3 HAL
  generalize (rl (attrOk (l1.map bl)) (l2.map bl)) = t4 at C4 HAL
  generalize (rl fS (l3.map bl)) = t5 at C5 HAL
  generalize (rl isWord (l4.map bl)) = t6 at C6 HAL
  generalize (rl isWord (l5.map bl)) = t7 at C7 HAL
  by_cases c0 : a0 < 1
  · have HR : Hid (R = false) := hide (by rw [HAL.out, epOk_no (by omega), Bool.false_and])
    clear HAL C1 C2 C3 C4 C5 C6 C7 CC
    obtain ⟨y0, y1, y2, y3, y4, y5, y6, y7, y8⟩ := SK.out _ HN.out
    go_enter Tryz.func38, Tryz.ntmps38
    go_upto_region 1 with fail
    rw [← hw1]
    clear hw1
    go_wp2_with fail
    go_ret
    rw [HR.out]
    exact ⟨rfl, HN.out.2⟩
  by_cases c1 : 1000000 < a0
  · have HR : Hid (R = false) := hide (by rw [HAL.out, epOk_no (by omega), Bool.false_and])
    clear HAL C1 C2 C3 C4 C5 C6 C7 CC
    obtain ⟨y0, y1, y2, y3, y4, y5, y6, y7, y8⟩ := SK.out _ HN.out
    go_enter Tryz.func38, Tryz.ntmps38
    go_upto_region 1 with fail
    rw [← hw1]
    clear hw1
    go_wp2_with fail
    go_ret
    rw [HR.out]
    exact ⟨rfl, HN.out.2⟩
  rw [epOk_yes (show 1 ≤ a0 ∧ a0 ≤ 1000000 by omega), Bool.true_and] at HAL
  cases t1 with
  | false =>
    have HR : Hid (R = false) := hide (by rw [HAL.out]; simp)
    clear HAL
    go_enter Tryz.func38, Tryz.ntmps38
    go_upto_region 1 with fail
    rw [← hw1]
    clear hw1
    clear C2 C3 C4 C5 C6 C7
    obtain ⟨y0, y1, y2, y3, y4, y5, y6, y7, y8⟩ := SK.out _ HN.out
    go_wp2_with fail
    refine (CC.out _ HN.out).mono ?_
    rintro e x0 ⟨rfl, g0⟩
    have G0 := hide g0
    clear g0 y0 y1 y2 y3 y4 y5 y6 y7 y8 HN CC
    go_wp2_with fail
    refine (C1.out _ G0.out).mono ?_
    rintro e x1 ⟨rfl, g1⟩
    have G1 := hide g1
    clear g1 G0 C1
    clear SK hmf
    go_wp2_with fail
    go_ret
    rw [HR.out]
    exact ⟨rfl, G1.out.2⟩
  | true =>
    cases t2 with
    | false =>
      have HR : Hid (R = false) := hide (by rw [HAL.out]; simp)
      clear HAL
      go_enter Tryz.func38, Tryz.ntmps38
      go_upto_region 1 with fail
      rw [← hw1]
      clear hw1
      clear C3 C4 C5 C6 C7
      obtain ⟨y0, y1, y2, y3, y4, y5, y6, y7, y8⟩ := SK.out _ HN.out
      go_wp2_with fail
      refine (CC.out _ HN.out).mono ?_
      rintro e x0 ⟨rfl, g0⟩
      have G0 := hide g0
      clear g0 y0 y1 y2 y3 y4 y5 y6 y7 y8 HN CC
      go_wp2_with fail
      refine (C1.out _ G0.out).mono ?_
      rintro e x1 ⟨rfl, g1⟩
      have G1 := hide g1
      clear g1 G0 C1
      obtain ⟨y0, y1, y2, y3, y4, y5, y6, y7, y8⟩ := SK.out _ G1.out
      go_wp2_with fail
      refine (C2.out _ G1.out).mono ?_
      rintro e x2 ⟨rfl, g2⟩
      have G2 := hide g2
      clear g2 y0 y1 y2 y3 y4 y5 y6 y7 y8 G1 C2
      clear SK hmf
      go_wp2_with fail
      go_ret
      rw [HR.out]
      exact ⟨rfl, G2.out.2⟩
    | true =>
      cases t3 with
      | false =>
        have HR : Hid (R = false) := hide (by rw [HAL.out]; simp)
        clear HAL
        go_enter Tryz.func38, Tryz.ntmps38
        go_upto_region 1 with fail
        rw [← hw1]
        clear hw1
        clear C4 C5 C6 C7
        obtain ⟨y0, y1, y2, y3, y4, y5, y6, y7, y8⟩ := SK.out _ HN.out
        go_wp2_with fail
        refine (CC.out _ HN.out).mono ?_
        rintro e x0 ⟨rfl, g0⟩
        have G0 := hide g0
        clear g0 y0 y1 y2 y3 y4 y5 y6 y7 y8 HN CC
        go_wp2_with fail
        refine (C1.out _ G0.out).mono ?_
        rintro e x1 ⟨rfl, g1⟩
        have G1 := hide g1
        clear g1 G0 C1
        obtain ⟨y0, y1, y2, y3, y4, y5, y6, y7, y8⟩ := SK.out _ G1.out
        go_wp2_with fail
        refine (C2.out _ G1.out).mono ?_
        rintro e x2 ⟨rfl, g2⟩
        have G2 := hide g2
        clear g2 y0 y1 y2 y3 y4 y5 y6 y7 y8 G1 C2
        obtain ⟨y0, y1, y2, y3, y4, y5, y6, y7, y8⟩ := SK.out _ G2.out
        go_wp2_with fail
        refine (C3.out _ G2.out).mono ?_
        rintro e x3 ⟨rfl, g3⟩
        have G3 := hide g3
        clear g3 y0 y1 y2 y3 y4 y5 y6 y7 y8 G2 C3
        clear SK hmf
        go_wp2_with fail
        go_ret
        rw [HR.out]
        exact ⟨rfl, G3.out.2⟩
      | true =>
        cases t4 with
        | false =>
          have HR : Hid (R = false) := hide (by rw [HAL.out]; simp)
          clear HAL
          go_enter Tryz.func38, Tryz.ntmps38
          go_upto_region 1 with fail
          rw [← hw1]
          clear hw1
          clear C5 C6 C7
          obtain ⟨y0, y1, y2, y3, y4, y5, y6, y7, y8⟩ := SK.out _ HN.out
          go_wp2_with fail
          refine (CC.out _ HN.out).mono ?_
          rintro e x0 ⟨rfl, g0⟩
          have G0 := hide g0
          clear g0 y0 y1 y2 y3 y4 y5 y6 y7 y8 HN CC
          go_wp2_with fail
          refine (C1.out _ G0.out).mono ?_
          rintro e x1 ⟨rfl, g1⟩
          have G1 := hide g1
          clear g1 G0 C1
          obtain ⟨y0, y1, y2, y3, y4, y5, y6, y7, y8⟩ := SK.out _ G1.out
          go_wp2_with fail
          refine (C2.out _ G1.out).mono ?_
          rintro e x2 ⟨rfl, g2⟩
          have G2 := hide g2
          clear g2 y0 y1 y2 y3 y4 y5 y6 y7 y8 G1 C2
          obtain ⟨y0, y1, y2, y3, y4, y5, y6, y7, y8⟩ := SK.out _ G2.out
          go_wp2_with fail
          refine (C3.out _ G2.out).mono ?_
          rintro e x3 ⟨rfl, g3⟩
          have G3 := hide g3
          clear g3 y0 y1 y2 y3 y4 y5 y6 y7 y8 G2 C3
          obtain ⟨y0, y1, y2, y3, y4, y5, y6, y7, y8⟩ := SK.out _ G3.out
          go_wp2_with fail
          refine (C4.out _ G3.out).mono ?_
          rintro e x4 ⟨rfl, g4⟩
          have G4 := hide g4
          clear g4 y0 y1 y2 y3 y4 y5 y6 y7 y8 G3 C4
          clear SK hmf
          go_wp2_with fail
          go_ret
          rw [HR.out]
          exact ⟨rfl, G4.out.2⟩
        | true =>
          cases t5 with
          | false =>
            have HR : Hid (R = false) := hide (by rw [HAL.out]; simp)
            clear HAL
            go_enter Tryz.func38, Tryz.ntmps38
            go_upto_region 1 with fail
            rw [← hw1]
            clear hw1
            clear C6 C7
            obtain ⟨y0, y1, y2, y3, y4, y5, y6, y7, y8⟩ := SK.out _ HN.out
            go_wp2_with fail
            refine (CC.out _ HN.out).mono ?_
            rintro e x0 ⟨rfl, g0⟩
            have G0 := hide g0
            clear g0 y0 y1 y2 y3 y4 y5 y6 y7 y8 HN CC
            go_wp2_with fail
            refine (C1.out _ G0.out).mono ?_
            rintro e x1 ⟨rfl, g1⟩
            have G1 := hide g1
            clear g1 G0 C1
            obtain ⟨y0, y1, y2, y3, y4, y5, y6, y7, y8⟩ := SK.out _ G1.out
            go_wp2_with fail
            refine (C2.out _ G1.out).mono ?_
            rintro e x2 ⟨rfl, g2⟩
            have G2 := hide g2
            clear g2 y0 y1 y2 y3 y4 y5 y6 y7 y8 G1 C2
            obtain ⟨y0, y1, y2, y3, y4, y5, y6, y7, y8⟩ := SK.out _ G2.out
            go_wp2_with fail
            refine (C3.out _ G2.out).mono ?_
            rintro e x3 ⟨rfl, g3⟩
            have G3 := hide g3
            clear g3 y0 y1 y2 y3 y4 y5 y6 y7 y8 G2 C3
            obtain ⟨y0, y1, y2, y3, y4, y5, y6, y7, y8⟩ := SK.out _ G3.out
            go_wp2_with fail
            refine (C4.out _ G3.out).mono ?_
            rintro e x4 ⟨rfl, g4⟩
            have G4 := hide g4
            clear g4 y0 y1 y2 y3 y4 y5 y6 y7 y8 G3 C4
            obtain ⟨y0, y1, y2, y3, y4, y5, y6, y7, y8⟩ := SK.out _ G4.out
            go_wp2_with fail
            refine (C5.out _ G4.out).mono ?_
            rintro e x5 ⟨rfl, g5⟩
            have G5 := hide g5
            clear g5 y0 y1 y2 y3 y4 y5 y6 y7 y8 G4 C5
            clear SK hmf
            go_wp2_with fail
            go_ret
            rw [HR.out]
            exact ⟨rfl, G5.out.2⟩
          | true =>
            cases t6 with
            | false =>
              have HR : Hid (R = false) := hide (by rw [HAL.out]; simp)
              clear HAL
              go_enter Tryz.func38, Tryz.ntmps38
              go_upto_region 1 with fail
              rw [← hw1]
              clear hw1
              clear C7
              obtain ⟨y0, y1, y2, y3, y4, y5, y6, y7, y8⟩ := SK.out _ HN.out
              go_wp2_with fail
              refine (CC.out _ HN.out).mono ?_
              rintro e x0 ⟨rfl, g0⟩
              have G0 := hide g0
              clear g0 y0 y1 y2 y3 y4 y5 y6 y7 y8 HN CC
              go_wp2_with fail
              refine (C1.out _ G0.out).mono ?_
              rintro e x1 ⟨rfl, g1⟩
              have G1 := hide g1
              clear g1 G0 C1
              obtain ⟨y0, y1, y2, y3, y4, y5, y6, y7, y8⟩ := SK.out _ G1.out
              go_wp2_with fail
              refine (C2.out _ G1.out).mono ?_
              rintro e x2 ⟨rfl, g2⟩
              have G2 := hide g2
              clear g2 y0 y1 y2 y3 y4 y5 y6 y7 y8 G1 C2
              obtain ⟨y0, y1, y2, y3, y4, y5, y6, y7, y8⟩ := SK.out _ G2.out
              go_wp2_with fail
              refine (C3.out _ G2.out).mono ?_
              rintro e x3 ⟨rfl, g3⟩
              have G3 := hide g3
              clear g3 y0 y1 y2 y3 y4 y5 y6 y7 y8 G2 C3
              obtain ⟨y0, y1, y2, y3, y4, y5, y6, y7, y8⟩ := SK.out _ G3.out
              go_wp2_with fail
              refine (C4.out _ G3.out).mono ?_
              rintro e x4 ⟨rfl, g4⟩
              have G4 := hide g4
              clear g4 y0 y1 y2 y3 y4 y5 y6 y7 y8 G3 C4
              obtain ⟨y0, y1, y2, y3, y4, y5, y6, y7, y8⟩ := SK.out _ G4.out
              go_wp2_with fail
              refine (C5.out _ G4.out).mono ?_
              rintro e x5 ⟨rfl, g5⟩
              have G5 := hide g5
              clear g5 y0 y1 y2 y3 y4 y5 y6 y7 y8 G4 C5
              obtain ⟨y0, y1, y2, y3, y4, y5, y6, y7, y8⟩ := SK.out _ G5.out
              go_wp2_with fail
              refine (C6.out _ G5.out).mono ?_
              rintro e x6 ⟨rfl, g6⟩
              have G6 := hide g6
              clear g6 y0 y1 y2 y3 y4 y5 y6 y7 y8 G5 C6
              clear SK hmf
              go_wp2_with fail
              go_ret
              rw [HR.out]
              exact ⟨rfl, G6.out.2⟩
            | true =>
              cases t7 with
              | false =>
                have HR : Hid (R = false) := hide (by rw [HAL.out]; simp)
                clear HAL
                go_enter Tryz.func38, Tryz.ntmps38
                go_upto_region 1 with fail
                rw [← hw1]
                clear hw1
                obtain ⟨y0, y1, y2, y3, y4, y5, y6, y7, y8⟩ := SK.out _ HN.out
                go_wp2_with fail
                refine (CC.out _ HN.out).mono ?_
                rintro e x0 ⟨rfl, g0⟩
                have G0 := hide g0
                clear g0 y0 y1 y2 y3 y4 y5 y6 y7 y8 HN CC
                go_wp2_with fail
                refine (C1.out _ G0.out).mono ?_
                rintro e x1 ⟨rfl, g1⟩
                have G1 := hide g1
                clear g1 G0 C1
                obtain ⟨y0, y1, y2, y3, y4, y5, y6, y7, y8⟩ := SK.out _ G1.out
                go_wp2_with fail
                refine (C2.out _ G1.out).mono ?_
                rintro e x2 ⟨rfl, g2⟩
                have G2 := hide g2
                clear g2 y0 y1 y2 y3 y4 y5 y6 y7 y8 G1 C2
                obtain ⟨y0, y1, y2, y3, y4, y5, y6, y7, y8⟩ := SK.out _ G2.out
                go_wp2_with fail
                refine (C3.out _ G2.out).mono ?_
                rintro e x3 ⟨rfl, g3⟩
                have G3 := hide g3
                clear g3 y0 y1 y2 y3 y4 y5 y6 y7 y8 G2 C3
                obtain ⟨y0, y1, y2, y3, y4, y5, y6, y7, y8⟩ := SK.out _ G3.out
                go_wp2_with fail
                refine (C4.out _ G3.out).mono ?_
                rintro e x4 ⟨rfl, g4⟩
                have G4 := hide g4
                clear g4 y0 y1 y2 y3 y4 y5 y6 y7 y8 G3 C4
                obtain ⟨y0, y1, y2, y3, y4, y5, y6, y7, y8⟩ := SK.out _ G4.out
                go_wp2_with fail
                refine (C5.out _ G4.out).mono ?_
                rintro e x5 ⟨rfl, g5⟩
                have G5 := hide g5
                clear g5 y0 y1 y2 y3 y4 y5 y6 y7 y8 G4 C5
                obtain ⟨y0, y1, y2, y3, y4, y5, y6, y7, y8⟩ := SK.out _ G5.out
                go_wp2_with fail
                refine (C6.out _ G5.out).mono ?_
                rintro e x6 ⟨rfl, g6⟩
                have G6 := hide g6
                clear g6 y0 y1 y2 y3 y4 y5 y6 y7 y8 G5 C6
                obtain ⟨y0, y1, y2, y3, y4, y5, y6, y7, y8⟩ := SK.out _ G6.out
                go_wp2_with fail
                refine (C7.out _ G6.out).mono ?_
                rintro e x7 ⟨rfl, g7⟩
                have G7 := hide g7
                clear g7 y0 y1 y2 y3 y4 y5 y6 y7 y8 G6 C7
                clear SK hmf
                go_wp2_with fail
                go_ret
                rw [HR.out]
                exact ⟨rfl, G7.out.2⟩
              | true =>
                have HR : Hid (R = true) := hide (by rw [HAL.out]; simp)
                clear HAL
                go_enter Tryz.func38, Tryz.ntmps38
                go_upto_region 1 with fail
                rw [← hw1]
                clear hw1
                obtain ⟨y0, y1, y2, y3, y4, y5, y6, y7, y8⟩ := SK.out _ HN.out
                go_wp2_with fail
                refine (CC.out _ HN.out).mono ?_
                rintro e x0 ⟨rfl, g0⟩
                have G0 := hide g0
                clear g0 y0 y1 y2 y3 y4 y5 y6 y7 y8 HN CC
                go_wp2_with fail
                refine (C1.out _ G0.out).mono ?_
                rintro e x1 ⟨rfl, g1⟩
                have G1 := hide g1
                clear g1 G0 C1
                obtain ⟨y0, y1, y2, y3, y4, y5, y6, y7, y8⟩ := SK.out _ G1.out
                go_wp2_with fail
                refine (C2.out _ G1.out).mono ?_
                rintro e x2 ⟨rfl, g2⟩
                have G2 := hide g2
                clear g2 y0 y1 y2 y3 y4 y5 y6 y7 y8 G1 C2
                obtain ⟨y0, y1, y2, y3, y4, y5, y6, y7, y8⟩ := SK.out _ G2.out
                go_wp2_with fail
                refine (C3.out _ G2.out).mono ?_
                rintro e x3 ⟨rfl, g3⟩
                have G3 := hide g3
                clear g3 y0 y1 y2 y3 y4 y5 y6 y7 y8 G2 C3
                obtain ⟨y0, y1, y2, y3, y4, y5, y6, y7, y8⟩ := SK.out _ G3.out
                go_wp2_with fail
                refine (C4.out _ G3.out).mono ?_
                rintro e x4 ⟨rfl, g4⟩
                have G4 := hide g4
                clear g4 y0 y1 y2 y3 y4 y5 y6 y7 y8 G3 C4
                obtain ⟨y0, y1, y2, y3, y4, y5, y6, y7, y8⟩ := SK.out _ G4.out
                go_wp2_with fail
                refine (C5.out _ G4.out).mono ?_
                rintro e x5 ⟨rfl, g5⟩
                have G5 := hide g5
                clear g5 y0 y1 y2 y3 y4 y5 y6 y7 y8 G4 C5
                obtain ⟨y0, y1, y2, y3, y4, y5, y6, y7, y8⟩ := SK.out _ G5.out
                go_wp2_with fail
                refine (C6.out _ G5.out).mono ?_
                rintro e x6 ⟨rfl, g6⟩
                have G6 := hide g6
                clear g6 y0 y1 y2 y3 y4 y5 y6 y7 y8 G5 C6
                obtain ⟨y0, y1, y2, y3, y4, y5, y6, y7, y8⟩ := SK.out _ G6.out
                go_wp2_with fail
                refine (C7.out _ G6.out).mono ?_
                rintro e x7 ⟨rfl, g7⟩
                have G7 := hide g7
                clear g7 y0 y1 y2 y3 y4 y5 y6 y7 y8 G6 C7
                clear SK hmf
                go_wp2_with fail
                go_ret
                rw [HR.out]
                exact ⟨rfl, G7.out.2⟩
end Go.Proofs.YtmogplecohkjcaaGreatDoor
