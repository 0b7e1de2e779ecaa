/-
  The program's own Text.
-/
import Derived.Test.YtmogplecohkjcaaGreatDoorR9
import Derived.Test.YtmogplecohkjcaaGreatDoorHR
namespace Pol8
theorem dec_len7 (n : Nat) (h : n ≤ 1000000) : (dec n).length ≤ 7 := dec_len n 6 (by omega)
theorem fits_lns {k : L} {l : List L} (hk : k.length ≤ 10) (h1 : l.length ≤ 100000) (h2 : ∀ x ∈ l, x.length ≤ 100000) : (lns k l).length ≤ 100000000000 := by
  have h3 := lns_bound k 100000 l h2
  have h4 : l.length * (100000 + k.length + 2) ≤ 100000 * (100000 + 10 + 2) := Nat.mul_le_mul h1 (by omega)
  omega
end Pol8
namespace Go.Proofs.YtmogplecohkjcaaGreatDoor
open Go.RowKit
open Utf1 Pol8

theorem below_gr (w : World) (q : Nat) (os : Array Obj) : Below w.heap.size w (Go.Sort.grow (w.drewN q) os) :=
  ⟨rfl, rfl, rfl, by first | (simp [Go.Sort.grow]; done) | (simp [Go.Sort.grow]; omega), fun i hi => by
    show ((w.drewN q).heap ++ os)[i]? = _
    rw [Array.getElem?_append_left (by show i < w.heap.size; omega)]
    rfl⟩
theorem padd_str (a b : ByteArray) (h : a.size + b.size ≤ 9223372036854775807) (w : World) : (Op.stringOp .add a b).run Tryz.prog w = .ok (.string (a ++ b)) w := by
  unfold Op.stringOp
  have : ¬ (((a.size + b.size : Nat) : Int) > IntKind.i64.max) := by
    show ¬ (((a.size + b.size : Nat) : Int) > 9223372036854775807)
    omega
  simp only [this, if_false]
  rfl
theorem pitoa_any (n : Int) (h0 : 0 ≤ n) (h1 : n ≤ 1000000) (w : World) (hg : Glob w) :
    Calls Tryz.prog 88 #[.int .i64 n] w fun e w' => e = .returned (.string ⟨(dec n.toNat).toArray⟩) ∧ Below w.heap.size w w' := by
  have := Tryz.strconv_Itoa n (by omega) (by omega) w hg
  rw [itoa_dec n h0] at this
  refine this.mono ?_
  rintro e w' ⟨h, k, os, rfl⟩
  exact ⟨h, below_gr w k os⟩

set_option maxRecDepth 100000 in
set_option maxHeartbeats 8000000 in
/-- A policy's block behind a pointer, gone through list by list. -/
theorem plists_st (w0 w : World) (P : Nat) (acc : L) (a0 : Int) (v1 v2 v3 v4 v5 : Value) (a6 a7 a8 : Int) (l1 l2 l3 l4 l5 : List ByteArray) (hP : P < w0.heap.size) (hb : w0.heap[P]? = some (.cells #[.int .i64 a0, v1, v2, v3, v4, v5, .int .i64 a6, .int .i64 a7, .int .i64 a8] 33 (0, 0))) (h : TS w0 w acc)
    (s1 : StrArg w0 v1 l1) (s2 : StrArg w0 v2 l2) (s3 : StrArg w0 v3 l3) (s4 : StrArg w0 v4 l4) (s5 : StrArg w0 v5 l5)
    (f1 : l1.length ≤ 100000) (f2 : l2.length ≤ 100000) (f3 : l3.length ≤ 100000) (f4 : l4.length ≤ 100000) (f5 : l5.length ≤ 100000)
    (z1 : ∀ x ∈ l1, x.size ≤ 100000) (z2 : ∀ x ∈ l2, x.size ≤ 100000) (z3 : ∀ x ∈ l3, x.size ≤ 100000) (z4 : ∀ x ∈ l4, x.size ≤ 100000) (z5 : ∀ x ∈ l5, x.size ≤ 100000) (hl : acc.length ≤ 1000) :
    Calls Tryz.prog 92 #[.pointer (some ⟨P, 0, none⟩), listV w0.heap.size] w fun e w' => e = .returned (.tuple #[]) ∧ TS w0 w' (acc ++ lns kElem (l1.map bl) ++ lns kAttr (l2.map bl) ++ lns kScheme (l3.map bl) ++ lns kClass (l4.map bl) ++ lns kProp (l5.map bl)) := by
  have bz : ∀ (l : List ByteArray), (∀ x ∈ l, x.size ≤ 100000) → ∀ x ∈ l.map bl, x.length ≤ 100000 := fun l hz x hx => by
    obtain ⟨y, hy, rfl⟩ := List.mem_map.1 hx
    rw [bl_len]
    exact hz y hy
  have q1 := fits_lns (k := kElem) (by decide) (by rw [List.length_map]; exact f1) (bz l1 z1)
  have q2 := fits_lns (k := kAttr) (by decide) (by rw [List.length_map]; exact f2) (bz l2 z2)
  have q3 := fits_lns (k := kScheme) (by decide) (by rw [List.length_map]; exact f3) (bz l3 z3)
  have q4 := fits_lns (k := kClass) (by decide) (by rw [List.length_map]; exact f4) (bz l4 z4)
  have q5 := fits_lns (k := kProp) (by decide) (by rw [List.length_map]; exact f5) (bz l5 z5)
  have SK : Hid (∀ wx, Below w0.heap.size w0 wx → wx.cell? ⟨P, 1, none⟩ = some v1 ∧ wx.cell? ⟨P, 2, none⟩ = some v2 ∧ wx.cell? ⟨P, 3, none⟩ = some v3 ∧ wx.cell? ⟨P, 4, none⟩ = some v4 ∧ wx.cell? ⟨P, 5, none⟩ = some v5) := hide (fun wx hx => by
    have := (hx.block P hP).trans hb
    exact ⟨tag_cell this 1 _ rfl, tag_cell this 2 _ rfl, tag_cell this 3 _ rfl, tag_cell this 4 _ rfl, tag_cell this 5 _ rfl⟩)
  have HT := hide h
  clear h
  have C1 : Hid (∀ wx (ac : L), TS w0 wx ac → ac.length ≤ 900000000000 → Calls Tryz.prog 93 #[.string ⟨#[101, 108, 101, 109]⟩, .pointer (some ⟨P, 1, none⟩), .pointer (some ⟨w0.heap.size + 1, 0, none⟩)] wx fun e w' => e = .returned (.tuple #[]) ∧ TS w0 w' (ac ++ lns kElem (l1.map bl))) := hide (fun wx ac hx hal => plist_st w0 wx ac ⟨#[101, 108, 101, 109]⟩ (by decide) P 1 v1 l1 f1 z1 hx (SK.out wx hx.2.1).1 s1 (by
    show ac.length + (lns kElem (l1.map bl)).length ≤ _
    omega))
  have C2 : Hid (∀ wx (ac : L), TS w0 wx ac → ac.length ≤ 900000000000 → Calls Tryz.prog 93 #[.string ⟨#[97, 116, 116, 114]⟩, .pointer (some ⟨P, 2, none⟩), .pointer (some ⟨w0.heap.size + 1, 0, none⟩)] wx fun e w' => e = .returned (.tuple #[]) ∧ TS w0 w' (ac ++ lns kAttr (l2.map bl))) := hide (fun wx ac hx hal => plist_st w0 wx ac ⟨#[97, 116, 116, 114]⟩ (by decide) P 2 v2 l2 f2 z2 hx (SK.out wx hx.2.1).2.1 s2 (by
    show ac.length + (lns kAttr (l2.map bl)).length ≤ _
    omega))
  have C3 : Hid (∀ wx (ac : L), TS w0 wx ac → ac.length ≤ 900000000000 → Calls Tryz.prog 93 #[.string ⟨#[115, 99, 104, 101, 109, 101]⟩, .pointer (some ⟨P, 3, none⟩), .pointer (some ⟨w0.heap.size + 1, 0, none⟩)] wx fun e w' => e = .returned (.tuple #[]) ∧ TS w0 w' (ac ++ lns kScheme (l3.map bl))) := hide (fun wx ac hx hal => plist_st w0 wx ac ⟨#[115, 99, 104, 101, 109, 101]⟩ (by decide) P 3 v3 l3 f3 z3 hx (SK.out wx hx.2.1).2.2.1 s3 (by
    show ac.length + (lns kScheme (l3.map bl)).length ≤ _
    omega))
  have C4 : Hid (∀ wx (ac : L), TS w0 wx ac → ac.length ≤ 900000000000 → Calls Tryz.prog 93 #[.string ⟨#[99, 108, 97, 115, 115]⟩, .pointer (some ⟨P, 4, none⟩), .pointer (some ⟨w0.heap.size + 1, 0, none⟩)] wx fun e w' => e = .returned (.tuple #[]) ∧ TS w0 w' (ac ++ lns kClass (l4.map bl))) := hide (fun wx ac hx hal => plist_st w0 wx ac ⟨#[99, 108, 97, 115, 115]⟩ (by decide) P 4 v4 l4 f4 z4 hx (SK.out wx hx.2.1).2.2.2.1 s4 (by
    show ac.length + (lns kClass (l4.map bl)).length ≤ _
    omega))
  have C5 : Hid (∀ wx (ac : L), TS w0 wx ac → ac.length ≤ 900000000000 → Calls Tryz.prog 93 #[.string ⟨#[112, 114, 111, 112]⟩, .pointer (some ⟨P, 5, none⟩), .pointer (some ⟨w0.heap.size + 1, 0, none⟩)] wx fun e w' => e = .returned (.tuple #[]) ∧ TS w0 w' (ac ++ lns kProp (l5.map bl))) := hide (fun wx ac hx hal => plist_st w0 wx ac ⟨#[112, 114, 111, 112]⟩ (by decide) P 5 v5 l5 f5 z5 hx (SK.out wx hx.2.1).2.2.2.2 s5 (by
    show ac.length + (lns kProp (l5.map bl)).length ≤ _
    omega))
  generalize lns kElem (l1.map bl) = g1 at q1 C1 ⊢
  generalize lns kAttr (l2.map bl) = g2 at q2 C2 ⊢
  generalize lns kScheme (l3.map bl) = g3 at q3 C3 ⊢
  generalize lns kClass (l4.map bl) = g4 at q4 C4 ⊢
  generalize lns kProp (l5.map bl) = g5 at q5 C5 ⊢
  clear hb s1 s2 s3 s4 s5 f1 f2 f3 f4 f5 z1 z2 z3 z4 z5 bz SK hP
  have HL := hide (And.intro hl (And.intro q1 (And.intro q2 (And.intro q3 (And.intro q4 q5)))))
  clear hl q1 q2 q3 q4 q5
  go_enter Tryz.func92, Tryz.ntmps92
  go_wp2_with fail
  refine (C1.out _ _ HT.out (by have := HL.out; first | omega | (simp only [List.length_append]; omega))).mono ?_
  rintro e x1 ⟨rfl, j1⟩
  have J1 := hide j1
  clear j1 C1 HT
  go_wp2_with fail
  refine (C2.out _ _ J1.out (by have := HL.out; first | omega | (simp only [List.length_append]; omega))).mono ?_
  rintro e x2 ⟨rfl, j2⟩
  have J2 := hide j2
  clear j2 C2 J1
  go_wp2_with fail
  refine (C3.out _ _ J2.out (by have := HL.out; first | omega | (simp only [List.length_append]; omega))).mono ?_
  rintro e x3 ⟨rfl, j3⟩
  have J3 := hide j3
  clear j3 C3 J2
  go_wp2_with fail
  refine (C4.out _ _ J3.out (by have := HL.out; first | omega | (simp only [List.length_append]; omega))).mono ?_
  rintro e x4 ⟨rfl, j4⟩
  have J4 := hide j4
  clear j4 C4 J3
  go_wp2_with fail
  refine (C5.out _ _ J4.out (by have := HL.out; first | omega | (simp only [List.length_append]; omega))).mono ?_
  rintro e x5 ⟨rfl, j5⟩
  have J5 := hide j5
  clear j5 C5 J4
  go_wp2_with fail
  go_end0
  exact ⟨rfl, J5.out⟩

set_option maxRecDepth 100000 in
set_option maxHeartbeats 32000000 in
theorem ptext_any : TextC := by
  intro v1 v2 v3 v4 v5 p l1 l2 l3 l4 l5 w hv hf
  obtain ⟨f1, z1⟩ := fits_of hf (by simp) hv.e1
  obtain ⟨f2, z2⟩ := fits_of hf (by simp) hv.e2
  obtain ⟨f3, z3⟩ := fits_of hf (by simp) hv.e3
  obtain ⟨f4, z4⟩ := fits_of hf (by simp) hv.e4
  obtain ⟨f5, z5⟩ := fits_of hf (by simp) hv.e5
  have CR : Hid (∀ wx, Below w.heap.size w wx → Calls Tryz.prog 38 #[pvalL p.ep v1 v2 v3 v4 v5 p.dp p.nd p.bt] wx fun e w' => e = .returned (.bool (right p)) ∧ Below wx.heap.size wx w') := hide (fun wx h => pright_any v1 v2 v3 v4 v5 p l1 l2 l3 l4 l5 wx (hv.below h) hf)
  have HRT : Hid (right p = true → (1 ≤ p.ep ∧ p.ep ≤ 1000000) ∧ (1 ≤ p.dp ∧ p.dp ≤ 64) ∧ (1 ≤ p.nd ∧ p.nd ≤ 2000) ∧ (1 ≤ p.bt ∧ p.bt ≤ 16384)) := hide (fun h => ((right_iff p).1 h).c)
  have HTX : Hid (text p = ln kEpoch (dec p.ep.toNat) ++ lns kElem (l1.map bl) ++ lns kAttr (l2.map bl) ++ lns kScheme (l3.map bl) ++ lns kClass (l4.map bl) ++ lns kProp (l5.map bl) ++ ln kCaps (dec p.dp.toNat ++ [32] ++ dec p.nd.toNat ++ [32] ++ dec p.bt.toNat)) := hide (by
    rw [hv.e1, hv.e2, hv.e3, hv.e4, hv.e5]
    simp [text, ln])
  show Calls Tryz.prog 76 #[pvalL p.ep v1 v2 v3 v4 v5 p.dp p.nd p.bt] w _
  generalize text p = TX at HTX ⊢
  generalize right p = r at CR HRT ⊢
  generalize p.ep = a0 at CR HRT HTX ⊢
  generalize p.dp = a6 at CR HRT HTX ⊢
  generalize p.nd = a7 at CR HRT HTX ⊢
  generalize p.bt = a8 at CR HRT HTX ⊢
  have HV := hide hv
  have hmf : ∀ (fn : Fn) (first cap : Array Value) (w : World), (Instr.makeFunc fn first cap).run Tryz.prog w = .ok (.func fn first cap) w := fun _ _ _ _ => rfl
  clear hv hf
  obtain ⟨w1, hw1⟩ : ∃ w1, w1 = w.alloc (.cells #[.int .i64 a0, v1, v2, v3, v4, v5, .int .i64 a6, .int .i64 a7, .int .i64 a8] 33) := ⟨_, rfl⟩
  have HN : Hid (BoxP w #[.int .i64 a0, v1, v2, v3, v4, v5, .int .i64 a6, .int .i64 a7, .int .i64 a8] w1) := hide (by rw [hw1]; exact ⟨new_block _ _ _, bel_alloc (Below.refl _ _) _⟩)
  have SK : Hid (∀ wx, BoxP w #[.int .i64 a0, v1, v2, v3, v4, v5, .int .i64 a6, .int .i64 a7, .int .i64 a8] wx → wx.cell? ⟨w.heap.size, 0, none⟩ = some (.int .i64 a0) ∧ wx.cell? ⟨w.heap.size, 1, none⟩ = some v1 ∧ wx.cell? ⟨w.heap.size, 2, none⟩ = some v2 ∧ wx.cell? ⟨w.heap.size, 3, none⟩ = some v3 ∧ wx.cell? ⟨w.heap.size, 4, none⟩ = some v4 ∧ wx.cell? ⟨w.heap.size, 5, none⟩ = some v5 ∧ wx.cell? ⟨w.heap.size, 6, none⟩ = some (.int .i64 a6) ∧ wx.cell? ⟨w.heap.size, 7, none⟩ = some (.int .i64 a7) ∧ wx.cell? ⟨w.heap.size, 8, none⟩ = some (.int .i64 a8)) := hide (fun wx h => ⟨h.cell 0 _ rfl, h.cell 1 _ rfl, h.cell 2 _ rfl, h.cell 3 _ rfl, h.cell 4 _ rfl, h.cell 5 _ rfl, h.cell 6 _ rfl, h.cell 7 _ rfl, h.cell 8 _ rfl⟩)
  go_enter Tryz.func76, Tryz.ntmps76
  go_upto_region 1 with fail
  rw [← hw1]
  clear hw1
  obtain ⟨y0, y1, y2, y3, y4, y5, y6, y7, y8⟩ := SK.out _ HN.out
  go_wp2_with fail
  refine (CR.out _ HN.out.2).mono ?_
  rintro e w2 ⟨rfl, hb2⟩
  have H2 := hide (HN.out.keep hb2)
  clear hb2 CR HN y0 y1 y2 y3 y4 y5 y6 y7 y8
  cases r with
  | false =>
    clear HRT HTX SK hmf
    go_wp2_with fail
    go_ret2
    exact ⟨rfl, H2.out.2⟩
  | true =>
    obtain ⟨r0, r6, r7, r8⟩ := HRT.out rfl
    have HPB : Hid (w2.heap[w.heap.size]? = some (.cells #[.int .i64 a0, v1, v2, v3, v4, v5, .int .i64 a6, .int .i64 a7, .int .i64 a8] 33 (0, 0)) ∧ w.heap.size < w2.heap.size ∧ Below w.heap.size w w2) := hide ⟨H2.out.1, (Array.getElem?_eq_some_iff.1 H2.out.1).1, H2.out.2⟩
    have HG : Hid (∀ wx, Below w2.heap.size w2 wx → Glob wx) := hide (fun wx h => (HV.out.below (bel2 H2.out.2 h)).g)
    have SC : Hid (∀ wx ac, TS w2 wx ac → wx.cell? ⟨w2.heap.size + 1, 0, none⟩ = some (lineV w2.heap.size) ∧ wx.cell? ⟨w.heap.size, 0, none⟩ = some (.int .i64 a0) ∧ wx.cell? ⟨w.heap.size, 6, none⟩ = some (.int .i64 a6) ∧ wx.cell? ⟨w.heap.size, 7, none⟩ = some (.int .i64 a7) ∧ wx.cell? ⟨w.heap.size, 8, none⟩ = some (.int .i64 a8)) := hide (fun wx ac h => by
      have := (h.2.1.block w.heap.size HPB.out.2.1).trans HPB.out.1
      exact ⟨tag_cell h.2.2 0 _ rfl, tag_cell this 0 _ rfl, tag_cell this 6 _ rfl, tag_cell this 7 _ rfl, tag_cell this 8 _ rfl⟩)
    have CI : Hid (∀ (n : Int), 0 ≤ n → n ≤ 1000000 → ∀ wx ac, TS w2 wx ac → Calls Tryz.prog 88 #[.int .i64 n] wx fun e w' => e = .returned (.string ⟨(dec n.toNat).toArray⟩) ∧ TS w2 w' ac) := hide (fun n h0 h1 wx ac h => (pitoa_any n h0 h1 wx (HG.out wx h.2.1)).mono fun e w' ⟨g1, g2⟩ => ⟨g1, h.keep g2⟩)
    have CE := hide (fun wx ac (h : TS w2 wx ac) (hl : ac.length ≤ 1000) => plists_st w2 wx w.heap.size ac a0 v1 v2 v3 v4 v5 a6 a7 a8 l1 l2 l3 l4 l5 HPB.out.2.1 HPB.out.1 h (HV.out.s1.below HPB.out.2.2) (HV.out.s2.below HPB.out.2.2) (HV.out.s3.below HPB.out.2.2) (HV.out.s4.below HPB.out.2.2) (HV.out.s5.below HPB.out.2.2) f1 f2 f3 f4 f5 z1 z2 z3 z4 z5 hl)
    have q0 := dec_len7 a0.toNat (by omega)
    have q6 := dec_len7 a6.toNat (by omega)
    have q7 := dec_len7 a7.toNat (by omega)
    have q8 := dec_len7 a8.toNat (by omega)
    have HLN : Hid ((ln kEpoch (dec a0.toNat) ++ lns kElem (l1.map bl) ++ lns kAttr (l2.map bl) ++ lns kScheme (l3.map bl) ++ lns kClass (l4.map bl) ++ lns kProp (l5.map bl)).length ≤ 900000000000 ∧ (ln kEpoch (dec a0.toNat)).length ≤ 1000) := hide (by
      have bz : ∀ (l : List ByteArray), (∀ x ∈ l, x.size ≤ 100000) → ∀ x ∈ l.map bl, x.length ≤ 100000 := fun l hz x hx => by
        obtain ⟨y, hy, rfl⟩ := List.mem_map.1 hx
        rw [bl_len]
        exact hz y hy
      have q1 := fits_lns (k := kElem) (by decide) (by rw [List.length_map]; exact f1) (bz l1 z1)
      have q2 := fits_lns (k := kAttr) (by decide) (by rw [List.length_map]; exact f2) (bz l2 z2)
      have q3 := fits_lns (k := kScheme) (by decide) (by rw [List.length_map]; exact f3) (bz l3 z3)
      have q4 := fits_lns (k := kClass) (by decide) (by rw [List.length_map]; exact f4) (bz l4 z4)
      have q5 := fits_lns (k := kProp) (by decide) (by rw [List.length_map]; exact f5) (bz l5 z5)
      have e0 : (ln kEpoch (dec a0.toNat)).length = 5 + 1 + (dec a0.toNat).length + 1 := by simp [ln, kEpoch]; omega
      simp only [List.length_append]
      omega)
    have C5 : Hid (∀ wx, TS w2 wx [] → Calls Tryz.prog 91 #[.string ⟨#[101, 112, 111, 99, 104]⟩, .string ⟨(dec a0.toNat).toArray⟩, .pointer (some ⟨w2.heap.size, 0, none⟩)] wx fun e w' => e = .returned (.tuple #[]) ∧ TS w2 w' (ln kEpoch (dec a0.toNat))) := hide (fun wx h => pline_st w2 wx [] ⟨#[101, 112, 111, 99, 104]⟩ ⟨(dec a0.toNat).toArray⟩ (by decide) (by rw [← bl_len]; show (dec a0.toNat).length ≤ _; omega) h (by
      have := HLN.out.2
      show 0 + (ln kEpoch (dec a0.toNat)).length ≤ _
      omega))
    have HBL : Hid (bl ⟨(dec a6.toNat).toArray⟩ = dec a6.toNat ∧ bl ⟨(dec a7.toNat).toArray⟩ = dec a7.toNat ∧ bl ⟨(dec a8.toNat).toArray⟩ = dec a8.toNat) := hide ⟨rfl, rfl, rfl⟩
    have HSZ : Hid ((⟨(dec a6.toNat).toArray⟩ : ByteArray).size ≤ 10 ∧ (⟨(dec a7.toNat).toArray⟩ : ByteArray).size ≤ 10 ∧ (⟨(dec a8.toNat).toArray⟩ : ByteArray).size ≤ 10) := hide (by
      rw [← bl_len, ← bl_len, ← bl_len, HBL.out.1, HBL.out.2.1, HBL.out.2.2]
      omega)
    have I0 := hide (CI.out a0 (by omega) (by omega))
    have I6 := hide (CI.out a6 (by omega) (by omega))
    have I7 := hide (CI.out a7 (by omega) (by omega))
    have I8 := hide (CI.out a8 (by omega) (by omega))
    generalize (⟨(dec a6.toNat).toArray⟩ : ByteArray) = D6 at HBL HSZ I6
    generalize (⟨(dec a7.toNat).toArray⟩ : ByteArray) = D7 at HBL HSZ I7
    generalize (⟨(dec a8.toNat).toArray⟩ : ByteArray) = D8 at HBL HSZ I8
    obtain ⟨d6, d7, d8⟩ := HSZ.out
    obtain ⟨ac6, hac6⟩ : ∃ ac6, ac6 = ln kEpoch (dec a0.toNat) ++ lns kElem (l1.map bl) ++ lns kAttr (l2.map bl) ++ lns kScheme (l3.map bl) ++ lns kClass (l4.map bl) ++ lns kProp (l5.map bl) := ⟨_, rfl⟩
    have CE := hide (fun wx (h : TS w2 wx (ln kEpoch (dec a0.toNat))) => CE.out wx _ h HLN.out.2)
    rw [← hac6] at HTX HLN CE
    have C7 : Hid (∀ wx, TS w2 wx ac6 → Calls Tryz.prog 91 #[.string ⟨#[99, 97, 112, 115]⟩, .string (D6 ++ ⟨#[32]⟩ ++ D7 ++ ⟨#[32]⟩ ++ D8), .pointer (some ⟨w2.heap.size, 0, none⟩)] wx fun e w' => e = .returned (.tuple #[]) ∧ TS w2 w' TX) := hide (fun wx h => by
      have hs : (D6 ++ ⟨#[32]⟩ ++ D7 ++ ⟨#[32]⟩ ++ D8 : ByteArray).size ≤ 100 := by
        rw [app_size, app_size, app_size, app_size]
        show D6.size + 1 + D7.size + 1 + D8.size ≤ 100
        omega
      have e1 : ln kCaps (bl (D6 ++ ⟨#[32]⟩ ++ D7 ++ ⟨#[32]⟩ ++ D8)) = ln kCaps (dec a6.toNat ++ [32] ++ dec a7.toNat ++ [32] ++ dec a8.toNat) := by
        rw [app_bl, app_bl, app_bl, app_bl, HBL.out.1, HBL.out.2.1, HBL.out.2.2]
      have := pline_st w2 wx ac6 ⟨#[99, 97, 112, 115]⟩ (D6 ++ ⟨#[32]⟩ ++ D7 ++ ⟨#[32]⟩ ++ D8) (by decide) (by omega) h (by
        have h1 := HLN.out.1
        have h2 : (ln (bl ⟨#[99, 97, 112, 115]⟩) (bl (D6 ++ ⟨#[32]⟩ ++ D7 ++ ⟨#[32]⟩ ++ D8))).length = 4 + 1 + (D6 ++ ⟨#[32]⟩ ++ D7 ++ ⟨#[32]⟩ ++ D8 : ByteArray).size + 1 := by
          rw [← bl_len]
          simp only [ln, List.length_append, List.length_cons, List.length_nil]
          rfl
        omega)
      rw [show bl ⟨#[99, 97, 112, 115]⟩ = kCaps from rfl, e1, ← HTX.out] at this
      exact this)
    have CS : Hid (∀ wx, TS w2 wx TX → Calls Tryz.prog 77 #[.pointer (some ⟨w2.heap.size, 0, none⟩)] wx fun e w' => e = .returned (.string ⟨TX.toArray⟩) ∧ Below w2.heap.size w2 w') := hide (fun wx h => (Tryz.Builder_String_any_k w2.heap.size w2.heap.size TX wx h.1 h.2.1.size).mono fun e w' ⟨h1, _, h2, _⟩ => ⟨h1, h.2.1.trans h2⟩)
    obtain ⟨E4, hE4⟩ : ∃ E4 : ByteArray, E4 = D6 ++ ⟨#[32]⟩ := ⟨_, rfl⟩
    obtain ⟨E5, hE5⟩ : ∃ E5 : ByteArray, E5 = E4 ++ D7 := ⟨_, rfl⟩
    obtain ⟨E6, hE6⟩ : ∃ E6 : ByteArray, E6 = E5 ++ ⟨#[32]⟩ := ⟨_, rfl⟩
    obtain ⟨E7, hE7⟩ : ∃ E7 : ByteArray, E7 = E6 ++ D8 := ⟨_, rfl⟩
    have z4 : E4.size ≤ 11 := by rw [hE4, app_size]; show _ + 1 ≤ _; omega
    have z5 : E5.size ≤ 21 := by rw [hE5, app_size]; omega
    have z6 : E6.size ≤ 22 := by rw [hE6, app_size]; show _ + 1 ≤ _; omega
    have aE4 : ∀ w, (Op.stringOp .add D6 ⟨#[32]⟩).run Tryz.prog w = .ok (.string E4) w := fun w => by rw [hE4]; exact padd_str _ _ (by show _ + 1 ≤ _; omega) w
    have aE5 : ∀ w, (Op.stringOp .add E4 D7).run Tryz.prog w = .ok (.string E5) w := fun w => by rw [hE5]; exact padd_str _ _ (by omega) w
    have aE6 : ∀ w, (Op.stringOp .add E5 ⟨#[32]⟩).run Tryz.prog w = .ok (.string E6) w := fun w => by rw [hE6]; exact padd_str _ _ (by show _ + 1 ≤ _; omega) w
    have aE7 : ∀ w, (Op.stringOp .add E6 D8).run Tryz.prog w = .ok (.string E7) w := fun w => by rw [hE7]; exact padd_str _ _ (by omega) w
    rw [← hE4, ← hE5, ← hE6, ← hE7] at C7
    clear hE4 hE5 hE6 hE7
    obtain ⟨w3, hw3⟩ : ∃ w3, w3 = (w2.alloc (.cells #[.pointer none, .slice none 0 0] 85)).alloc (.cells #[lineV w2.heap.size] 117) := ⟨_, rfl⟩
    have HT3 : Hid (TS w2 w3 []) := hide (by
      have k1 : PB w2 (w2.alloc (.cells #[.pointer none, .slice none 0 0] 85)) [] := Lib.IsBuilderF.of (Lib.fresh_isBuilder 85 5 w2)
      have k2 : Below (w2.alloc (.cells #[.pointer none, .slice none 0 0] 85)).heap.size (w2.alloc (.cells #[.pointer none, .slice none 0 0] 85)) w3 := by rw [hw3]; exact bel_alloc (Below.refl _ _) _
      refine ⟨k1.keep k2, by rw [hw3]; exact bel_alloc (bel_alloc (Below.refl _ _) _) _, ?_⟩
      rw [hw3]
      exact heap_alloc2_new _ _ _)
    have HB2 := hide H2.out.2
    clear HRT f1 f2 f3 f4 f5 z1 z2 z3 SK HV H2 HPB HG HSZ HBL HLN HTX CI hac6 q0 q6 q7 q8 r0 r6 r7 r8
    go_upto_region 5 with fail
    rw [← hw3]
    clear hw3
    refine wp_region_held_drew (S := (fun wx => wx.cell? ⟨w2.heap.size + 1, 0, none⟩ = some (lineV w2.heap.size) ∧ wx.cell? ⟨w.heap.size, 0, none⟩ = some (.int .i64 a0) ∧ wx.cell? ⟨w.heap.size, 6, none⟩ = some (.int .i64 a6) ∧ wx.cell? ⟨w.heap.size, 7, none⟩ = some (.int .i64 a7) ∧ wx.cell? ⟨w.heap.size, 8, none⟩ = some (.int .i64 a8))) (by kernel_rfl) (SC.out _ _ (HT3.out.keep ((Below.refl _ _).drew))) (fun hHeld => ?_)
    refine wpAnyH_to (i := 0) (v := ?vm0) (a1 := ?xm0) rfl (by kernel_rfl) (by kernel_rfl) (by kernel_rfl) (fun _ _ _ h => h) (Or.inl ⟨by rfl, ?ym0⟩) (by assumption) ?hm0 ?zm0
    case ym0 => (intro w hSw; (try dsimp only at hSw); go_simp; try (with_reducible rfl))
    case hm0 => (go_simp; exact rfl)
    case zm0 =>
    refine wpAnyH_to (i := 1) (v := ?vm1) (a1 := ?xm1) rfl (by kernel_rfl) (by kernel_rfl) (by kernel_rfl) (fun _ _ _ h => h) (Or.inl ⟨by rfl, ?ym1⟩) (by assumption) ?hm1 ?zm1
    case ym1 => (intro w hSw; (try dsimp only at hSw); go_simp; try (with_reducible rfl))
    case hm1 => (go_simp; exact rfl)
    case zm1 =>
    refine wpAnyH_to (i := 2) (v := ?vm2) (a1 := ?xm2) rfl (by kernel_rfl) (by kernel_rfl) (by kernel_rfl) (fun _ _ _ h => h) (Or.inl ⟨by rfl, ?ym2⟩) (by assumption) ?hm2 ?zm2
    case ym2 => (intro w hSw; (try dsimp only at hSw); go_simp; try (with_reducible rfl))
    case hm2 => (go_simp; exact rfl)
    case zm2 =>
    refine wpAnyH_ready (rs := [3]) (by kernel_rfl) (by simp) ?_
    refine AllReadyH.cons rfl (fun K hK => ?_) AllReadyH.nil
    go_simp
    refine (I0.out _ [] (HT3.out.keep ((Below.refl _ _).drew))).mono ?_
    rintro e x1 ⟨rfl, k1⟩
    try go_wp2_with fail
    refine hK.out _ _ (SC.out _ _ (by assumption)) (fun hHeld2 => ?_)
    clear hK K hHeld
    have hHeld := hHeld2
    clear hHeld2
    refine wpAnyH_ready (rs := [4]) (by kernel_rfl) (by simp) ?_
    refine AllReadyH.cons rfl (fun K hK => ?_) AllReadyH.nil
    go_simp
    refine (C5.out _ (by assumption)).mono ?_
    rintro e x2 ⟨rfl, k2⟩
    try go_wp2_with fail
    refine hK.out _ _ (SC.out _ _ (by assumption)) (fun hHeld2 => ?_)
    clear hK K hHeld
    have hHeld := hHeld2
    clear hHeld2
    refine wpAnyH_done (by kernel_rfl) ?_ _
    have K2 := hide k2
    clear k2 I0 C5 HT3
    go_wp2_with fail
    refine (CE.out _ K2.out).mono ?_
    rintro e x3 ⟨rfl, k3⟩
    have K3 := hide k3
    clear k3 K2 CE hmf
    go_wp2_with fail
    refine wp_region_held_drew (S := (fun wx => wx.cell? ⟨w2.heap.size + 1, 0, none⟩ = some (lineV w2.heap.size) ∧ wx.cell? ⟨w.heap.size, 0, none⟩ = some (.int .i64 a0) ∧ wx.cell? ⟨w.heap.size, 6, none⟩ = some (.int .i64 a6) ∧ wx.cell? ⟨w.heap.size, 7, none⟩ = some (.int .i64 a7) ∧ wx.cell? ⟨w.heap.size, 8, none⟩ = some (.int .i64 a8))) (by kernel_rfl) (SC.out _ _ (K3.out.keep ((Below.refl _ _).drew))) (fun hHeld => ?_)
    refine wpAnyH_to (i := 0) (v := ?vn0) (a1 := ?xn0) rfl (by kernel_rfl) (by kernel_rfl) (by kernel_rfl) (fun _ _ _ h => h) (Or.inl ⟨by rfl, ?yn0⟩) (by assumption) ?hn0 ?zn0
    case yn0 => (intro w hSw; (try dsimp only at hSw); go_simp; try (with_reducible rfl))
    case hn0 => (go_simp; exact rfl)
    case zn0 =>
    refine wpAnyH_to (i := 1) (v := ?vn1) (a1 := ?xn1) rfl (by kernel_rfl) (by kernel_rfl) (by kernel_rfl) (fun _ _ _ h => h) (Or.inl ⟨by rfl, ?yn1⟩) (by assumption) ?hn1 ?zn1
    case yn1 => (intro w hSw; (try dsimp only at hSw); go_simp; try (with_reducible rfl))
    case hn1 => (go_simp; exact rfl)
    case zn1 =>
    refine wpAnyH_to (i := 2) (v := ?vn2) (a1 := ?xn2) rfl (by kernel_rfl) (by kernel_rfl) (by kernel_rfl) (fun _ _ _ h => h) (Or.inl ⟨by rfl, ?yn2⟩) (by assumption) ?hn2 ?zn2
    case yn2 => (intro w hSw; (try dsimp only at hSw); go_simp; try (with_reducible rfl))
    case hn2 => (go_simp; exact rfl)
    case zn2 =>
    refine wpAnyH_to (i := 5) (v := ?vn5) (a1 := ?xn5) rfl (by kernel_rfl) (by kernel_rfl) (by kernel_rfl) (fun _ _ _ h => h) (Or.inl ⟨by rfl, ?yn5⟩) (by assumption) ?hn5 ?zn5
    case yn5 => (intro w hSw; (try dsimp only at hSw); go_simp; try (with_reducible rfl))
    case hn5 => (go_simp; exact rfl)
    case zn5 =>
    refine wpAnyH_to (i := 6) (v := ?vn6) (a1 := ?xn6) rfl (by kernel_rfl) (by kernel_rfl) (by kernel_rfl) (fun _ _ _ h => h) (Or.inl ⟨by rfl, ?yn6⟩) (by assumption) ?hn6 ?zn6
    case yn6 => (intro w hSw; (try dsimp only at hSw); go_simp; try (with_reducible rfl))
    case hn6 => (go_simp; exact rfl)
    case zn6 =>
    refine wpAnyH_to (i := 10) (v := ?vn10) (a1 := ?xn10) rfl (by kernel_rfl) (by kernel_rfl) (by kernel_rfl) (fun _ _ _ h => h) (Or.inl ⟨by rfl, ?yn10⟩) (by assumption) ?hn10 ?zn10
    case yn10 => (intro w hSw; (try dsimp only at hSw); go_simp; try (with_reducible rfl))
    case hn10 => (go_simp; exact rfl)
    case zn10 =>
    refine wpAnyH_to (i := 11) (v := ?vn11) (a1 := ?xn11) rfl (by kernel_rfl) (by kernel_rfl) (by kernel_rfl) (fun _ _ _ h => h) (Or.inl ⟨by rfl, ?yn11⟩) (by assumption) ?hn11 ?zn11
    case yn11 => (intro w hSw; (try dsimp only at hSw); go_simp; try (with_reducible rfl))
    case hn11 => (go_simp; exact rfl)
    case zn11 =>
    refine wpAnyH_ready (rs := [3]) (by kernel_rfl) (by simp) ?_
    refine AllReadyH.cons rfl (fun K hK => ?_) AllReadyH.nil
    go_simp
    refine (I6.out _ ac6 (K3.out.keep ((Below.refl _ _).drew))).mono ?_
    rintro e x4 ⟨rfl, k4⟩
    try go_wp2_with fail
    refine hK.out _ _ (SC.out _ _ (by assumption)) (fun hHeld2 => ?_)
    clear hK K hHeld
    have hHeld := hHeld2
    clear hHeld2
    refine wpAnyH_to (i := 4) (v := ?vn4) (a1 := ?xn4) rfl (by kernel_rfl) (by kernel_rfl) (by kernel_rfl) (fun _ _ _ h => h) (Or.inl ⟨by rfl, ?yn4⟩) (by assumption) ?hn4 ?zn4
    case yn4 => (intro w hSw; (try dsimp only at hSw); go_simp; try (with_reducible rfl))
    case hn4 => (go_simp; exact rfl)
    case zn4 =>
    refine wpAnyH_ready (rs := [7]) (by kernel_rfl) (by simp) ?_
    refine AllReadyH.cons rfl (fun K hK => ?_) AllReadyH.nil
    go_simp
    refine (I7.out _ ac6 (by assumption)).mono ?_
    rintro e x5 ⟨rfl, k5⟩
    try go_wp2_with fail
    refine hK.out _ _ (SC.out _ _ (by assumption)) (fun hHeld2 => ?_)
    clear hK K hHeld
    have hHeld := hHeld2
    clear hHeld2
    refine wpAnyH_to (i := 8) (v := ?vn8) (a1 := ?xn8) rfl (by kernel_rfl) (by kernel_rfl) (by kernel_rfl) (fun _ _ _ h => h) (Or.inl ⟨by rfl, ?yn8⟩) (by assumption) ?hn8 ?zn8
    case yn8 => (intro w hSw; (try dsimp only at hSw); go_simp; try (with_reducible rfl))
    case hn8 => (go_simp; exact rfl)
    case zn8 =>
    refine wpAnyH_to (i := 9) (v := ?vn9) (a1 := ?xn9) rfl (by kernel_rfl) (by kernel_rfl) (by kernel_rfl) (fun _ _ _ h => h) (Or.inl ⟨by rfl, ?yn9⟩) (by assumption) ?hn9 ?zn9
    case yn9 => (intro w hSw; (try dsimp only at hSw); go_simp; try (with_reducible rfl))
    case hn9 => (go_simp; exact rfl)
    case zn9 =>
    refine wpAnyH_ready (rs := [12]) (by kernel_rfl) (by simp) ?_
    refine AllReadyH.cons rfl (fun K hK => ?_) AllReadyH.nil
    go_simp
    refine (I8.out _ ac6 (by assumption)).mono ?_
    rintro e x6 ⟨rfl, k6⟩
    try go_wp2_with fail
    refine hK.out _ _ (SC.out _ _ (by assumption)) (fun hHeld2 => ?_)
    clear hK K hHeld
    have hHeld := hHeld2
    clear hHeld2
    refine wpAnyH_to (i := 13) (v := ?vn13) (a1 := ?xn13) rfl (by kernel_rfl) (by kernel_rfl) (by kernel_rfl) (fun _ _ _ h => h) (Or.inl ⟨by rfl, ?yn13⟩) (by assumption) ?hn13 ?zn13
    case yn13 => (intro w hSw; (try dsimp only at hSw); go_simp; try (with_reducible rfl))
    case hn13 => (go_simp; exact rfl)
    case zn13 =>
    refine wpAnyH_ready (rs := [14]) (by kernel_rfl) (by simp) ?_
    refine AllReadyH.cons rfl (fun K hK => ?_) AllReadyH.nil
    go_simp
    refine (C7.out _ (by assumption)).mono ?_
    rintro e x7 ⟨rfl, k7⟩
    try go_wp2_with fail
    refine hK.out _ _ (SC.out _ _ (by assumption)) (fun hHeld2 => ?_)
    clear hK K hHeld
    have hHeld := hHeld2
    clear hHeld2
    refine wpAnyH_done (by kernel_rfl) ?_ _
    have K7 := hide k7
    clear k7 I6 I7 I8 C7 K3 SC
    go_wp2_with fail
    refine (CS.out _ K7.out).mono ?_
    rintro e x8 ⟨rfl, k8⟩
    have K8 := hide (bel2 HB2.out k8)
    clear k8 CS K7
    go_wp2_with fail
    go_ret2
    exact ⟨rfl, K8.out⟩
end Go.Proofs.YtmogplecohkjcaaGreatDoor
