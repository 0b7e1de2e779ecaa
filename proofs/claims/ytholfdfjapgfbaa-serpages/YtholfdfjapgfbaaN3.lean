/-
  ser.writeAll and ser.HTML.
-/
import Derived.Test.YtholfdfjapgfbaaN2
namespace Go.Proofs.Ytholfdfjapgfbaa
open Go.RowKit
open Utf1

theorem meth_text (w : World) (a b c d : Value) : (method 192 61 (.agg #[a, b, c, d]) "verso/ser.write").run Try.prog w = .ok (54, .agg #[a, b, c, d]) w := by kernel_rfl
theorem meth_elem (w : World) (a b c d : Value) : (method 192 62 (.agg #[a, b, c, d]) "verso/ser.write").run Try.prog w = .ok (61, .agg #[a, b, c, d]) w := by kernel_rfl

set_option maxRecDepth 100000 in
set_option maxHeartbeats 8000000 in
theorem writeAll_nst (w0 : World) : ∀ (D : Nat) (w : World) (v : Value) (ns : List Nd) (acc : List UInt8), NAtD w0 D v ns → Below w0.heap.size w0 w → PB w0 w acc → acc.length + (htL ns).length ≤ 1000000000 →
    Calls Try.prog 15 #[.pointer (some ⟨w0.heap.size, 0, none⟩), v] w (WPost w0 w acc (htL ns)) := by
  intro D
  induction D with
  | zero => intro w v ns acc h; exact h.elim
  | succ D0 ih =>
  intro w v ns acc hk hb hu hlen
  obtain ⟨p, c, rfl, hNm, hnode⟩ := hk
  have HNODE := hide hnode
  have HBW := hide hb
  have HBU := hide hu
  have HIH := hide ih
  have HLEN := hide hlen
  obtain ⟨N, hN⟩ : ∃ N, N = ns.length := ⟨_, rfl⟩
  rw [← hN] at hNm ⊢
  have HN := hide hN
  clear hnode hb ih hN hu hlen
  go_enter Try.func15, Try.ntmps15
  go_wp2_with fail
  go_loopg [8] N (fun k v8 wr => ∃ (j : Nat) (d rest : List Nd), rest.length = k ∧ d.length = j ∧ j + k = N ∧ v8 = .int .i64 (j : Int) ∧ Hid (ns = d ++ rest) ∧ Hid (PB w0 wr (acc ++ htL d) ∧ Below w0.heap.size w wr ∧ Lib.OthersKept 5 (some w0.heap.size) w wr))
  case atStart => exact ⟨0, [], ns, HN.out.symm, rfl, by omega, rfl, hide rfl, hide ⟨by rw [show htL [] = [] from rfl, List.append_nil]; exact HBU.out, Below.refl _ _, Lib.OthersKept.refl _ _ _⟩⟩
  case round =>
    obtain ⟨j, d, rest, rfl, hdj, hjk, rfl, HD, HS⟩ := hrel
    clear HBU
    match rest, hjk, HD with
    | [], hjk, HD =>
      have e1 : d = ns := by
        have := HD.out
        rw [List.append_nil] at this
        exact this.symm
      simp only [List.length_nil, Nat.add_zero] at hjk
      subst hjk
      subst e1
      clear HD hdj
      go_wp2_with fail
      go_end0
      exact ⟨rfl, HS.out⟩
    | nd :: rest, hjk, HD =>
      have hjN : j < N := by simp only [List.length_cons] at hjk; omega
      have hge : ns[j]? = some nd := by
        rw [HD.out, List.getElem?_append_right (by omega), hdj, Nat.sub_self]
        rfl
      obtain ⟨g, off, ap, am, ac, kp, km, kc, hp, x0, x1, x2, x3, hsz, har, hkk⟩ := HNODE.out j nd hge
      subst hp
      have hbr := HBW.out.trans HS.out.2.1
      have x0 := cell_keep x0 hbr
      have x1 := cell_keep x1 hbr
      have x2 := cell_keep x2 hbr
      have x3 := cell_keep x3 hbr
      have hct : (htL ns).length = (htL d).length + ((htN nd).length + (htL rest).length) := by
        rw [HD.out, htL_app, List.length_append, htL, List.length_append]
      have hlen := HLEN.out
      obtain ⟨XN, hXN⟩ : ∃ X : ByteArray, X = ⟨nd.name.toArray⟩ := ⟨_, rfl⟩
      obtain ⟨XT, hXT⟩ : ∃ X : ByteArray, X = ⟨nd.text.toArray⟩ := ⟨_, rfl⟩
      rw [← hXN] at x0
      rw [← hXT] at x2
      have q0 : XN.toList.isEmpty = decide (nd.name = []) := by rw [hXN]; exact nm_empty _
      have hT1 : bl XT = nd.text := by rw [hXT]
      obtain ⟨w2, hw2⟩ : ∃ w2, w2 = wr.alloc (.cells #[.string XN, .slice ap am ac, .string XT, .slice kp km kc] 29) := ⟨_, rfl⟩
      have hb2 : Below wr.heap.size wr w2 := by rw [hw2]; exact (Below.refl _ _).alloc (Nat.le_refl _) _
      have y0 : w2.cell? ⟨wr.heap.size, 0, none⟩ = some (.string XN) := by rw [hw2, new_cell]; rfl
      have y1 : w2.cell? ⟨wr.heap.size, 1, none⟩ = some (.slice ap am ac) := by rw [hw2, new_cell]; rfl
      have y2 : w2.cell? ⟨wr.heap.size, 2, none⟩ = some (.string XT) := by rw [hw2, new_cell]; rfl
      have y3 : w2.cell? ⟨wr.heap.size, 3, none⟩ = some (.slice kp km kc) := by rw [hw2, new_cell]; rfl
      have HD2 : Hid (ns = (d ++ [nd]) ++ rest) := hide (by rw [HD.out]; simp)
      have HT2 : Hid (acc ++ htL (d ++ [nd]) = acc ++ htL d ++ htN nd) := hide (by rw [htL_app]; show acc ++ (_ ++ (htN nd ++ [])) = _; rw [List.append_nil, List.append_assoc])
      have hjk2 : j + (rest.length + 1) = N := hjk
      have hdj2 : (d ++ [nd]).length = j + 1 := by simp [hdj]
      have HWC : Hid (∀ wx, Below w2.heap.size w2 wx → Calls Try.prog (if nd.name = [] then 54 else 61) #[.agg #[.string XN, .slice ap am ac, .string XT, .slice kp km kc], .pointer (some ⟨w0.heap.size, 0, none⟩)] wx fun e w' => e = .returned (.tuple #[]) ∧ Hid (PB w0 w' (acc ++ htL (d ++ [nd])) ∧ Below w0.heap.size w w' ∧ Lib.OthersKept 5 (some w0.heap.size) w w')) := hide (by
        intro wx hx
        have hbx := bel2 hb2 hx
        have hend : ∀ x, x = htN nd → ∀ e w', WPost w0 wx (acc ++ htL d) x e w' → e = .returned (.tuple #[]) ∧ Hid (PB w0 w' (acc ++ htL (d ++ [nd])) ∧ Below w0.heap.size w w' ∧ Lib.OthersKept 5 (some w0.heap.size) w w') := by
          intro x hx e w' ⟨h1, h2, h3, h4⟩
          subst hx
          exact ⟨h1, by rw [HT2.out]; exact h2, HS.out.2.1.trans ((hbx.mono hbr.size).trans h3), HS.out.2.2.trans ((kept_bel hbx).trans h4)⟩
        by_cases hn : nd.name = []
        · rw [if_pos hn]
          have hh := htN_kids nd
          rw [if_pos hn, ← hT1] at hh
          refine (text_write w0 wx ap am ac XN XT kp km kc (acc ++ htL d) (hbr.trans (hbx.mono hbr.size)) (HS.out.1.keep hbx) ?_).mono (hend _ hh.symm)
          rw [List.length_append, ← hh]
          omega
        · rw [if_neg hn]
          refine (elem_write w0 wx nd ap am ac XN XT kp km kc (acc ++ htL d) hXN hn (hbr.trans (hbx.mono hbr.size)) (HS.out.1.keep hbx) har ?_ ?_).mono (hend _ rfl)
          · intro wy ac2 h1 h2 h3
            exact HIH.out wy _ _ ac2 hkk h1 h2 h3
          · rw [List.length_append]
            omega)
      clear hge hkk har hbr HD hXT hXN hjk hct hlen hT1 HS hdj HIH HNODE HT2 hsz
      have HB2 := hide hb2
      clear hb2
      go_upto_region 3 with fail
      rw [← hw2]
      clear hw2 x0 x1 x2 x3
      by_cases hnm : nd.name = []
      · rw [decide_eq_true hnm] at q0
        rw [if_pos hnm] at HWC
        have hm := fun w => meth_text w (.string XN) (.slice ap am ac) (.string XT) (.slice kp km kc)
        go_wp2_with fail
        refine (partOf_text _ ap am ac XN XT kp km kc q0).mono ?_
        rintro e w3 ⟨rfl, hb3⟩
        have HW3 := hide (HWC.out w3 hb3)
        clear hb3 HWC
        go_wp2_with fail
        refine HW3.out.mono ?_
        rintro e w4 ⟨rfl, HS4⟩
        clear HW3 hm
        go_wp2_with fail
        go_roundg rest.length
        case measure => simp only [List.length_cons]; omega
        case rel => exact ⟨j + 1, d ++ [nd], rest, rfl, hdj2, by omega, by first | rfl | simp, HD2, HS4⟩
      · rw [decide_eq_false hnm] at q0
        rw [if_neg hnm] at HWC
        have hm := fun w => meth_elem w (.string XN) (.slice ap am ac) (.string XT) (.slice kp km kc)
        go_wp2_with fail
        refine (partOf_elem _ ap am ac XN XT kp km kc q0).mono ?_
        rintro e w3 ⟨rfl, hb3⟩
        have HW3 := hide (HWC.out w3 hb3)
        clear hb3 HWC
        go_wp2_with fail
        refine HW3.out.mono ?_
        rintro e w4 ⟨rfl, HS4⟩
        clear HW3 hm
        go_wp2_with fail
        go_roundg rest.length
        case measure => simp only [List.length_cons]; omega
        case rel => exact ⟨j + 1, d ++ [nd], rest, rfl, hdj2, by omega, by first | rfl | simp, HD2, HS4⟩

set_option maxRecDepth 100000 in
set_option maxHeartbeats 8000000 in
theorem html_nst (w : World) (v : Value) (ns : List Nd) (hk : NAt w v ns) (hl : (htL ns).length ≤ 1000000000) :
    Calls Try.prog 8 #[v] w fun e w' => (∃ O, e = .returned (.string O) ∧ bl O = htL ns) ∧ Below w.heap.size w w' := by
  obtain ⟨D, hk⟩ := hk
  have hb1 : Below w.heap.size w (w.alloc (.cells #[.pointer none, .slice none 0 0] 39)) := (Below.refl _ _).alloc (Nat.le_refl _) _
  have hu1 : PB w (w.alloc (.cells #[.pointer none, .slice none 0 0] 39)) [] := Lib.IsBuilderF.of (Lib.fresh_isBuilder 39 5 w)
  have HW := hide (writeAll_nst w D _ v ns [] hk hb1 hu1 (by simpa using hl))
  have HB1 := hide hb1
  clear hk hb1 hu1
  go_enter Try.func8, Try.ntmps8
  go_wp2_with fail
  refine HW.out.mono ?_
  rintro e w2 ⟨rfl, m1, m2, -⟩
  have HS := hide (Try.Builder_String_any_k w.heap.size w.heap.size _ w2 m1 (HB1.out.trans m2).size)
  have HB2 := hide (HB1.out.trans m2)
  clear m1 m2 HW HB1
  go_wp2_with fail
  refine HS.out.mono ?_
  rintro e w3 ⟨rfl, _, m2, _⟩
  have HB3 := hide (HB2.out.trans m2)
  clear m2 HS HB2
  go_wp2_with fail
  go_ret
  exact ⟨⟨_, rfl, rfl⟩, HB3.out⟩
end Go.Proofs.Ytholfdfjapgfbaa
