/-
  The law TokParts, walked: it answers true at every text.
-/
import Derived.Test.YtjmgcdeinjamiaaDoorB8
import Derived.Test.YtjmgcdeinjamiaaDoorM6
namespace Go.Proofs.YtjmgcdeinjamiaaDoor
open Go.RowKit
open Utf1

theorem attr_at : ∀ (l : List (List UInt8 × List UInt8)) (i : Nat) (p : List UInt8 × List UInt8), l[i]? = some p → (attrCells l)[i * 2]? = some (.string ⟨p.1.toArray⟩)
  | [], i, p, h => by simp at h
  | q :: r, 0, p, h => by
    have : q = p := by simpa using h
    subst this
    rfl
  | q :: r, i + 1, p, h => by
    have h' : r[i]? = some p := by simpa using h
    rw [show (i + 1) * 2 = i * 2 + 1 + 1 by omega]
    exact attr_at r i p h'

theorem eq_nil (s : ByteArray) : (s.toList != []) = !decide (bl s = []) := by
  rw [ByteArray.toList_eq]
  by_cases h : bl s = []
  · rw [decide_eq_true h]
    show (bl s != []) = _
    rw [h]
    rfl
  · rw [decide_eq_false h]
    exact bne_iff_ne.2 h
theorem nm_not {c : UInt8} (h : isNm c = false) : ((c.toNat : Int) == 32) = false ∧ ((c.toNat : Int) == 62) = false ∧ ((c.toNat : Int) == 47) = false ∧ ((c.toNat : Int) == 10) = false := by
  unfold isNm isBl at h
  simp only [Bool.or_eq_false_iff] at h
  obtain ⟨⟨⟨⟨⟨⟨h9, h10⟩, h12⟩, h13⟩, h32⟩, h47⟩, h62⟩ := h
  have k : ∀ n : Nat, n < 256 → (c == UInt8.ofNat n) = false → ((c.toNat : Int) == (n : Int)) = false := by
    intro n hn hc
    rw [u8b c n hn]
    exact decide_eq_false (beq_eq_false_iff_ne.1 hc)
  exact ⟨k 32 (by decide) h32, k 62 (by decide) h62, k 47 (by decide) h47, k 10 (by decide) h10⟩
theorem bne_empty {l : List UInt8} {b : Bool} (h : (l != []) = b) : l.isEmpty = !b := by
  subst h
  cases l <;> rfl
theorem own_max {w : World} {base : Nat} {e : TypeId} {size : Nat} {v : Value} {n : Nat} {xs : List Value} (h : w.ownsRow base e size v n xs) : n ≤ 9223372036854775807 := by
  obtain ⟨_, ⟨_, e⟩ | ⟨g, cap, cur, _, _, _, h1, h2, _⟩⟩ := h
  · omega
  · exact Nat.le_trans h1 h2
theorem names_apart {w : World} {base am : Nat} {ap : Option Addr} {ac : Nat} {al : List (List UInt8 × List UInt8)} (h : w.ownsRow base 34 2 (.slice ap am ac) al.length (attrCells al)) (hn : (al.map Prod.fst).Nodup) (b a : Nat) (hb : b < a) (ha : a < am) :
    ∃ ga, ap = some ⟨ga, 0, none⟩ ∧ ∃ X Y : ByteArray, w.cell? ⟨ga, b * 2, none⟩ = some (.string X) ∧ w.cell? ⟨ga, a * 2, none⟩ = some (.string Y) ∧ (X.toList == Y.toList) = false := by
  obtain ⟨p, c, e⟩ := own_len h
  injection e with e1 e2 e3
  subst e2
  have hb' : al[b]? = some (al[b]'(by omega)) := List.getElem?_eq_getElem _
  have ha' : al[a]? = some (al[a]'ha) := List.getElem?_eq_getElem _
  have hne : (al[b]'(by omega)).1 ≠ (al[a]'ha).1 := by
    intro e
    have := (List.getElem_inj (i := b) (j := a) (h₀ := by simp; omega) (h₁ := by simp; omega) hn).1 (by simpa using e)
    omega
  obtain ⟨_, ⟨e, _⟩ | ⟨g', cap', cur, e, _⟩⟩ := id h
  · injection e with e1 e2 e3
    omega
  · injection e with e1 e2 e3
    subst e1
    refine ⟨g', rfl, _, _, (h.cellAt (b * 2) (by omega)).trans (attr_at _ _ _ hb'), (h.cellAt (a * 2) (by omega)).trans (attr_at _ _ _ ha'), ?_⟩
    refine beq_eq_false_iff_ne.2 fun e => hne ?_
    simpa [ByteArray.toList_eq] using e

/-- What stays in the loops over attributes. -/
def PartsW (w0 : World) (base B : Nat) (vs av : Value) (l : List (Tk × Value)) (al : List (List UInt8 × List UInt8)) (wq : World) : Prop :=
  wq.cell? ⟨B, 2, none⟩ = some av ∧ wq.ownsRow base 34 2 av al.length (attrCells al) ∧ ToksAt wq base vs l ∧ Below w0.heap.size w0 wq
theorem bel_one (w : World) : Below w.heap.size w w.drew := ⟨rfl, rfl, rfl, Nat.le_refl _, fun _ _ => rfl⟩
theorem PartsW.drew {w0 : World} {base B : Nat} {vs av : Value} {l : List (Tk × Value)} {al : List (List UInt8 × List UInt8)} {wq : World} (h : PartsW w0 base B vs av l al wq) : PartsW w0 base B vs av l al wq.drew :=
  ⟨h.1, own_below h.2.1 (bel_one wq), h.2.2.1.below (bel_one wq), bel2 h.2.2.2 (bel_one wq)⟩

set_option maxRecDepth 100000 in
set_option maxHeartbeats 16000000 in
theorem lawParts (s : ByteArray) (w : World) (hg : Glob w) (hgm : GlobM w) : Calls Tryd.prog 6 #[.string s] w fun e w' => e = .returned (.bool true) ∧ Below w.heap.size w w' := by
  have HG := hide (And.intro hg hgm)
  clear hg hgm
  by_cases hs : 3000 < s.size
  · go_enter Tryd.func6, Tryd.ntmps6
    go_wp2_with fail
    refine (awake_any _ HG.out.1 HG.out.2).mono ?_
    rintro e w1 ⟨rfl, hb1⟩
    go_wp2_with fail
    go_ret
    exact ⟨rfl, hb1⟩
  have hs : s.size ≤ 3000 := by omega
  have HT := hide (fun w hg hgm => tokens_any s w (by omega) hg hgm)
  go_enter Tryd.func6, Tryd.ntmps6
  go_wp2_with fail
  refine (awake_any _ HG.out.1 HG.out.2).mono ?_
  rintro e w1 ⟨rfl, hb1⟩
  have HB1 := hide hb1
  clear hb1
  go_wp2_with fail
  refine (HT.out _ (HG.out.1.below HB1.out) (HG.out.2.below HB1.out)).mono ?_
  rintro e w2 ⟨v, l, rfl, hl, htk, hb2⟩
  have HOK : Hid (∀ p ∈ l, TkOk p.1 ∧ p.1.name.length ≤ 3000) := hide (by
    intro p hp
    have hm : p.1 ∈ toks (bl s) := by
      rw [← hl]
      exact List.mem_map_of_mem hp
    refine ⟨toks_ok (bl s) p.1 hm, ?_⟩
    have := toks_name (bl s) p.1 hm
    rw [bl_len] at this
    omega)
  have hlmax := own_max htk.1
  have HB2 := hide (bel2 HB1.out hb2)
  have HTK := hide htk
  obtain ⟨vp, vc, rfl⟩ := own_len htk.1
  clear hl htk hb2 HT HG HB1
  go_wp2_with fail
  go_loopg [5] l.length (fun g v wr => ∃ i : Nat, i + g = l.length ∧ v = .int .i64 (i : Int) ∧ Hid (ToksAt wr w1.heap.size (.slice vp l.length vc) l) ∧ Hid (Below w.heap.size w wr))
  case atStart => exact ⟨0, by omega, rfl, HTK, HB2⟩
  case round =>
    obtain ⟨i, hig, rfl, HTR, HBR⟩ := hrel
    obtain ⟨wo, hwo⟩ : ∃ wo, wo = wr := ⟨_, rfl⟩
    subst hwo
    clear HTK HB2
    by_cases hil : i < l.length
    case neg =>
      go_wp2_with fail
      go_ret
      exact ⟨rfl, HBR.out⟩
    have hp : l[i]? = some (l[i]'hil) := List.getElem?_eq_getElem _
    have hok := HOK.out (l[i]'hil) (List.getElem_mem ..)
    obtain ⟨hok, hnl⟩ := hok
    have hat := HTR.out.2 (l[i]'hil) (List.getElem_mem ..)
    generalize l[i]'hil = q at hp hok hat hnl
    obtain ⟨t, av⟩ := q
    obtain ⟨gg, cap, e, -⟩ := toks_slice HTR.out (by intro e; rw [e] at hil; simp at hil)
    cases e
    obtain ⟨ap, am, ac, rfl⟩ := own_slice hat
    have c0 : wo.cell? ⟨gg, i * 5, none⟩ = some (.int .i64 (t.kind : Int)) := tok_at HTR.out i _ hp 0 (by decide)
    have c1 : wo.cell? ⟨gg, i * 5 + 1, none⟩ = some (.string ⟨t.name.toArray⟩) := tok_at HTR.out i _ hp 1 (by decide)
    have c2 : wo.cell? ⟨gg, i * 5 + 2, none⟩ = some (.slice ap am ac) := tok_at HTR.out i _ hp 2 (by decide)
    have c3 : wo.cell? ⟨gg, i * 5 + 3, none⟩ = some (.bool t.closed) := tok_at HTR.out i _ hp 3 (by decide)
    have c4 : wo.cell? ⟨gg, i * 5 + 4, none⟩ = some (.string ⟨t.text.toArray⟩) := tok_at HTR.out i _ hp 4 (by decide)
    have HTW := hide HTR.out
    have ham : am = t.attrs.length := by
      obtain ⟨_, _, e⟩ := own_len hat
      injection e
    obtain ⟨NM, hNM⟩ : ∃ NM : ByteArray, NM = ⟨t.name.toArray⟩ := ⟨_, rfl⟩
    obtain ⟨TX, hTX⟩ : ∃ TX : ByteArray, TX = ⟨t.text.toArray⟩ := ⟨_, rfl⟩
    rw [← hNM] at c1
    rw [← hTX] at c4
    have hbn : bl NM = t.name := by rw [hNM]
    have hbt : bl TX = t.text := by rw [hTX]
    have hNs : NM.size ≤ 3000 := by
      rw [← bl_len, hbn]
      exact hnl
    have hamax : am ≤ 9223372036854775807 := by
      rw [ham]
      exact own_max hat
    clear hnl
    have HNM : Hid (∀ j, j < NM.size → ∃ z : Int, (∀ w, (Instr.index 9 (.string NM) (.int .i64 (j : Int))).run Tryd.prog w = .ok (.int .u8 z) w) ∧ (decide (65 ≤ z) = false ∨ (decide (65 ≤ z) = true ∧ decide (z ≤ 90) = false)) ∧ (z == 32) = false ∧ (z == 62) = false ∧ (z == 47) = false ∧ (z == 10) = false) := hide (by
      intro j hj
      have hge : (bl NM)[j]? = some ((bl NM)[j]'(by rw [bl_len]; exact hj)) := List.getElem?_eq_getElem _
      have hm : (bl NM)[j]'(by rw [bl_len]; exact hj) ∈ t.name := by
        rw [← hbn]
        exact List.getElem_mem ..
      generalize (bl NM)[j]'(by rw [bl_len]; exact hj) = c at hge hm
      obtain ⟨hnm, hup⟩ := hok.nm c hm
      refine ⟨(c.toNat : Int), fun w => idxK hge w, ?_, nm_not hnm⟩
      by_cases h : 65 ≤ c.toNat
      · exact .inr ⟨decide_eq_true (by omega), decide_eq_false (by omega)⟩
      · exact .inl (decide_eq_false (by omega)))
    have hok' : TkOk t := hok
    have HAT := hide hat
    have HND := hide hok'.nodup
    have HWQ : Hid (∀ kd : Int, Below wo.heap.size wo (wo.alloc (.cells #[.int .i64 kd, .string NM, .slice ap am ac, .bool t.closed, .string TX] 32))) := hide (fun _ => (Below.refl _ _).alloc (Nat.le_refl _) _)
    have q0 := eq_nil NM
    have q1 := eq_nil TX
    have hkind := hok'.kind
    have htag := hok'.tag
    have htext := hok'.text
    have honly := hok'.only
    rw [← hbn] at htag
    rw [← hbt] at htext
    clear hok hok' hat hp hNM hTX hbn hbt HOK
    obtain ⟨cl, hcl⟩ : ∃ cl, cl = t.closed := ⟨_, rfl⟩
    rw [← hcl] at c3 HWQ honly
    clear hcl
    rcases (show t.kind = 1 ∨ t.kind = 2 ∨ t.kind = 3 ∨ t.kind = 4 from by omega) with hk | hk | hk | hk
    · rw [hk] at c0 htag htext honly
      have c0 : wo.cell? ⟨gg, i * 5, none⟩ = some (.int .i64 1) := c0
      have HW1 := hide (HWQ.out 1)
      clear HWQ hk hkind
      have e0 : bl NM = [] := Classical.byContradiction fun h => by have := htag.2 h; omega
      rw [decide_eq_true e0] at q0
      have q0 : (NM.toList != []) = false := q0
      have q0b : NM.toList.isEmpty = true := bne_empty q0
      obtain ⟨rfl, ha⟩ := honly (by decide)
      have am0 : am = 0 := by rw [ham, ha]; rfl
      subst am0
      clear htag htext e0 ha ham honly
      cases hq : decide (bl TX = []) with
      | true =>
        rw [hq] at q1
        have q1 : (TX.toList != []) = false := q1
        have q1b : TX.toList.isEmpty = true := bne_empty q1
        clear hq
        go_wp2_with fail
        go_loopg [8] NM.size (fun g v wq => ∃ j : Nat, j + g = NM.size ∧ v = .int .i64 (j : Int) ∧ wq = (wo.alloc (.cells #[.int .i64 1, .string NM, .slice ap 0 ac, .bool false, .string TX] 32)))
        case atStart => exact ⟨0, by omega, rfl, rfl⟩
        case round =>
          obtain ⟨j, hjg, rfl, rfl⟩ := hrel
          by_cases hjl : j < NM.size
          · obtain ⟨z, i0, hz, y1, y2, y3, y4⟩ := HNM.out j hjl
            rcases hz with hz | ⟨hz, hz2⟩
            · go_wp2_with fail
              go_roundg (gk - 1)
              case measure => omega
              case rel => exact ⟨j + 1, by omega, by first | rfl | (rw [wrap64_in _ ⟨by omega, by omega⟩]; rfl) | simp, rfl⟩
            · go_wp2_with fail
              go_roundg (gk - 1)
              case measure => omega
              case rel => exact ⟨j + 1, by omega, by first | rfl | (rw [wrap64_in _ ⟨by omega, by omega⟩]; rfl) | simp, rfl⟩
          · go_wp2_with fail
            go_loopg [10] 0 (fun g v wq => ∃ j : Nat, j + g = 0 ∧ v = .int .i64 (j : Int) ∧ Hid (PartsW w w1.heap.size wo.heap.size (.slice (some ⟨gg, 0, none⟩) l.length vc) (.slice ap 0 ac) l t.attrs wq))
            case atStart => exact ⟨0, by omega, rfl, hide ⟨by simp, own_below HAT.out HW1.out, HTW.out.below HW1.out, bel2 HBR.out HW1.out⟩⟩
            case round =>
              obtain ⟨a, hag, rfl, HPQ⟩ := hrel
              have cq := HPQ.out.1
              by_cases hal : a < 0
              · exact absurd hal (Nat.not_lt_zero _)
              · go_wp2_with fail
                go_roundg (l.length - i - 1)
                case measure => omega
                case rel => exact ⟨i + 1, by omega, by first | rfl | (rw [wrap64_in _ ⟨by omega, by omega⟩]; rfl) | simp, hide HPQ.out.2.2.1, hide HPQ.out.2.2.2⟩
      | false =>
        rw [hq] at q1
        have q1 : (TX.toList != []) = true := q1
        have q1b : TX.toList.isEmpty = false := bne_empty q1
        clear hq
        go_wp2_with fail
        go_loopg [8] NM.size (fun g v wq => ∃ j : Nat, j + g = NM.size ∧ v = .int .i64 (j : Int) ∧ wq = (wo.alloc (.cells #[.int .i64 1, .string NM, .slice ap 0 ac, .bool false, .string TX] 32)))
        case atStart => exact ⟨0, by omega, rfl, rfl⟩
        case round =>
          obtain ⟨j, hjg, rfl, rfl⟩ := hrel
          by_cases hjl : j < NM.size
          · obtain ⟨z, i0, hz, y1, y2, y3, y4⟩ := HNM.out j hjl
            rcases hz with hz | ⟨hz, hz2⟩
            · go_wp2_with fail
              go_roundg (gk - 1)
              case measure => omega
              case rel => exact ⟨j + 1, by omega, by first | rfl | (rw [wrap64_in _ ⟨by omega, by omega⟩]; rfl) | simp, rfl⟩
            · go_wp2_with fail
              go_roundg (gk - 1)
              case measure => omega
              case rel => exact ⟨j + 1, by omega, by first | rfl | (rw [wrap64_in _ ⟨by omega, by omega⟩]; rfl) | simp, rfl⟩
          · go_wp2_with fail
            go_loopg [10] 0 (fun g v wq => ∃ j : Nat, j + g = 0 ∧ v = .int .i64 (j : Int) ∧ Hid (PartsW w w1.heap.size wo.heap.size (.slice (some ⟨gg, 0, none⟩) l.length vc) (.slice ap 0 ac) l t.attrs wq))
            case atStart => exact ⟨0, by omega, rfl, hide ⟨by simp, own_below HAT.out HW1.out, HTW.out.below HW1.out, bel2 HBR.out HW1.out⟩⟩
            case round =>
              obtain ⟨a, hag, rfl, HPQ⟩ := hrel
              have cq := HPQ.out.1
              by_cases hal : a < 0
              · exact absurd hal (Nat.not_lt_zero _)
              · go_wp2_with fail
                go_roundg (l.length - i - 1)
                case measure => omega
                case rel => exact ⟨i + 1, by omega, by first | rfl | (rw [wrap64_in _ ⟨by omega, by omega⟩]; rfl) | simp, hide HPQ.out.2.2.1, hide HPQ.out.2.2.2⟩
    · rw [hk] at c0 htag htext honly
      have c0 : wo.cell? ⟨gg, i * 5, none⟩ = some (.int .i64 2) := c0
      have HW1 := hide (HWQ.out 2)
      clear HWQ hk hkind
      have e0 : bl NM ≠ [] := htag.1 (by decide)
      rw [decide_eq_false e0] at q0
      have q0 : (NM.toList != []) = true := q0
      have q0b : NM.toList.isEmpty = false := bne_empty q0
      rw [decide_eq_true (htext (by decide))] at q1
      have q1 : (TX.toList != []) = false := q1
      have q1b : TX.toList.isEmpty = true := bne_empty q1
      clear htag htext e0 ham honly
      go_wp2_with fail
      go_loopg [8] NM.size (fun g v wq => ∃ j : Nat, j + g = NM.size ∧ v = .int .i64 (j : Int) ∧ wq = (wo.alloc (.cells #[.int .i64 2, .string NM, .slice ap am ac, .bool cl, .string TX] 32)))
      case atStart => exact ⟨0, by omega, rfl, rfl⟩
      case round =>
        obtain ⟨j, hjg, rfl, rfl⟩ := hrel
        by_cases hjl : j < NM.size
        · obtain ⟨z, i0, hz, y1, y2, y3, y4⟩ := HNM.out j hjl
          rcases hz with hz | ⟨hz, hz2⟩
          · go_wp2_with fail
            go_roundg (gk - 1)
            case measure => omega
            case rel => exact ⟨j + 1, by omega, by first | rfl | (rw [wrap64_in _ ⟨by omega, by omega⟩]; rfl) | simp, rfl⟩
          · go_wp2_with fail
            go_roundg (gk - 1)
            case measure => omega
            case rel => exact ⟨j + 1, by omega, by first | rfl | (rw [wrap64_in _ ⟨by omega, by omega⟩]; rfl) | simp, rfl⟩
        · go_wp2_with fail
          go_loopg [10] am (fun g v wq => ∃ j : Nat, j + g = am ∧ v = .int .i64 (j : Int) ∧ Hid (PartsW w w1.heap.size wo.heap.size (.slice (some ⟨gg, 0, none⟩) l.length vc) (.slice ap am ac) l t.attrs wq))
          case atStart => exact ⟨0, by omega, rfl, hide ⟨by simp, own_below HAT.out HW1.out, HTW.out.below HW1.out, bel2 HBR.out HW1.out⟩⟩
          case round =>
            obtain ⟨a, hag, rfl, HPQ⟩ := hrel
            have cq := HPQ.out.1
            by_cases hal : a < am
            · go_wp2_with fail
              go_loopg [11] a (fun g v wq => ∃ j : Nat, j + g = a ∧ v = .int .i64 (j : Int) ∧ Hid (PartsW w w1.heap.size wo.heap.size (.slice (some ⟨gg, 0, none⟩) l.length vc) (.slice ap am ac) l t.attrs wq))
              case atStart => exact ⟨0, by omega, rfl, HPQ⟩
              case round =>
                clear cq HPQ
                obtain ⟨b, hbg, rfl, HPR⟩ := hrel
                have cr := HPR.out.1
                by_cases hbl : b < a
                · obtain ⟨ga, rfl, X, Y, cX, cY, hXY⟩ := names_apart HPR.out.2.1 HND.out b a hbl hal
                  go_wp2_with fail
                  go_region
                  all_goals (go_wp2_with fail; go_roundg (gk - 1))
                  case measure => omega
                  case rel => exact ⟨b + 1, by omega, by first | rfl | (rw [wrap64_in _ ⟨by omega, by omega⟩]; rfl) | simp, hide HPR.out.drew⟩
                · go_wp2_with fail
                  go_roundg (am - a - 1)
                  case measure => omega
                  case rel => exact ⟨a + 1, by omega, by first | rfl | (rw [wrap64_in _ ⟨by omega, by omega⟩]; rfl) | simp, HPR⟩
            · go_wp2_with fail
              go_roundg (l.length - i - 1)
              case measure => omega
              case rel => exact ⟨i + 1, by omega, by first | rfl | (rw [wrap64_in _ ⟨by omega, by omega⟩]; rfl) | simp, hide HPQ.out.2.2.1, hide HPQ.out.2.2.2⟩
    · rw [hk] at c0 htag htext honly
      have c0 : wo.cell? ⟨gg, i * 5, none⟩ = some (.int .i64 3) := c0
      have HW1 := hide (HWQ.out 3)
      clear HWQ hk hkind
      have e0 : bl NM ≠ [] := htag.1 (by decide)
      rw [decide_eq_false e0] at q0
      have q0 : (NM.toList != []) = true := q0
      have q0b : NM.toList.isEmpty = false := bne_empty q0
      rw [decide_eq_true (htext (by decide))] at q1
      have q1 : (TX.toList != []) = false := q1
      have q1b : TX.toList.isEmpty = true := bne_empty q1
      obtain ⟨rfl, ha⟩ := honly (by decide)
      have am0 : am = 0 := by rw [ham, ha]; rfl
      subst am0
      clear ha
      clear htag htext e0 ham honly
      go_wp2_with fail
      go_loopg [8] NM.size (fun g v wq => ∃ j : Nat, j + g = NM.size ∧ v = .int .i64 (j : Int) ∧ wq = (wo.alloc (.cells #[.int .i64 3, .string NM, .slice ap 0 ac, .bool false, .string TX] 32)))
      case atStart => exact ⟨0, by omega, rfl, rfl⟩
      case round =>
        obtain ⟨j, hjg, rfl, rfl⟩ := hrel
        by_cases hjl : j < NM.size
        · obtain ⟨z, i0, hz, y1, y2, y3, y4⟩ := HNM.out j hjl
          rcases hz with hz | ⟨hz, hz2⟩
          · go_wp2_with fail
            go_roundg (gk - 1)
            case measure => omega
            case rel => exact ⟨j + 1, by omega, by first | rfl | (rw [wrap64_in _ ⟨by omega, by omega⟩]; rfl) | simp, rfl⟩
          · go_wp2_with fail
            go_roundg (gk - 1)
            case measure => omega
            case rel => exact ⟨j + 1, by omega, by first | rfl | (rw [wrap64_in _ ⟨by omega, by omega⟩]; rfl) | simp, rfl⟩
        · go_wp2_with fail
          go_loopg [10] 0 (fun g v wq => ∃ j : Nat, j + g = 0 ∧ v = .int .i64 (j : Int) ∧ Hid (PartsW w w1.heap.size wo.heap.size (.slice (some ⟨gg, 0, none⟩) l.length vc) (.slice ap 0 ac) l t.attrs wq))
          case atStart => exact ⟨0, by omega, rfl, hide ⟨by simp, own_below HAT.out HW1.out, HTW.out.below HW1.out, bel2 HBR.out HW1.out⟩⟩
          case round =>
            obtain ⟨a, hag, rfl, HPQ⟩ := hrel
            have cq := HPQ.out.1
            by_cases hal : a < 0
            · exact absurd hal (Nat.not_lt_zero _)
            · go_wp2_with fail
              go_roundg (l.length - i - 1)
              case measure => omega
              case rel => exact ⟨i + 1, by omega, by first | rfl | (rw [wrap64_in _ ⟨by omega, by omega⟩]; rfl) | simp, hide HPQ.out.2.2.1, hide HPQ.out.2.2.2⟩
    · rw [hk] at c0 htag htext honly
      have c0 : wo.cell? ⟨gg, i * 5, none⟩ = some (.int .i64 4) := c0
      have HW1 := hide (HWQ.out 4)
      clear HWQ hk hkind
      have e0 : bl NM = [] := Classical.byContradiction fun h => by have := htag.2 h; omega
      rw [decide_eq_true e0] at q0
      have q0 : (NM.toList != []) = false := q0
      have q0b : NM.toList.isEmpty = true := bne_empty q0
      obtain ⟨rfl, ha⟩ := honly (by decide)
      have am0 : am = 0 := by rw [ham, ha]; rfl
      subst am0
      clear htag htext e0 ha ham honly
      cases hq : decide (bl TX = []) with
      | true =>
        rw [hq] at q1
        have q1 : (TX.toList != []) = false := q1
        have q1b : TX.toList.isEmpty = true := bne_empty q1
        clear hq
        go_wp2_with fail
        go_loopg [8] NM.size (fun g v wq => ∃ j : Nat, j + g = NM.size ∧ v = .int .i64 (j : Int) ∧ wq = (wo.alloc (.cells #[.int .i64 4, .string NM, .slice ap 0 ac, .bool false, .string TX] 32)))
        case atStart => exact ⟨0, by omega, rfl, rfl⟩
        case round =>
          obtain ⟨j, hjg, rfl, rfl⟩ := hrel
          by_cases hjl : j < NM.size
          · obtain ⟨z, i0, hz, y1, y2, y3, y4⟩ := HNM.out j hjl
            rcases hz with hz | ⟨hz, hz2⟩
            · go_wp2_with fail
              go_roundg (gk - 1)
              case measure => omega
              case rel => exact ⟨j + 1, by omega, by first | rfl | (rw [wrap64_in _ ⟨by omega, by omega⟩]; rfl) | simp, rfl⟩
            · go_wp2_with fail
              go_roundg (gk - 1)
              case measure => omega
              case rel => exact ⟨j + 1, by omega, by first | rfl | (rw [wrap64_in _ ⟨by omega, by omega⟩]; rfl) | simp, rfl⟩
          · go_wp2_with fail
            go_loopg [10] 0 (fun g v wq => ∃ j : Nat, j + g = 0 ∧ v = .int .i64 (j : Int) ∧ Hid (PartsW w w1.heap.size wo.heap.size (.slice (some ⟨gg, 0, none⟩) l.length vc) (.slice ap 0 ac) l t.attrs wq))
            case atStart => exact ⟨0, by omega, rfl, hide ⟨by simp, own_below HAT.out HW1.out, HTW.out.below HW1.out, bel2 HBR.out HW1.out⟩⟩
            case round =>
              obtain ⟨a, hag, rfl, HPQ⟩ := hrel
              have cq := HPQ.out.1
              by_cases hal : a < 0
              · exact absurd hal (Nat.not_lt_zero _)
              · go_wp2_with fail
                go_roundg (l.length - i - 1)
                case measure => omega
                case rel => exact ⟨i + 1, by omega, by first | rfl | (rw [wrap64_in _ ⟨by omega, by omega⟩]; rfl) | simp, hide HPQ.out.2.2.1, hide HPQ.out.2.2.2⟩
      | false =>
        rw [hq] at q1
        have q1 : (TX.toList != []) = true := q1
        have q1b : TX.toList.isEmpty = false := bne_empty q1
        clear hq
        go_wp2_with fail
        go_loopg [8] NM.size (fun g v wq => ∃ j : Nat, j + g = NM.size ∧ v = .int .i64 (j : Int) ∧ wq = (wo.alloc (.cells #[.int .i64 4, .string NM, .slice ap 0 ac, .bool false, .string TX] 32)))
        case atStart => exact ⟨0, by omega, rfl, rfl⟩
        case round =>
          obtain ⟨j, hjg, rfl, rfl⟩ := hrel
          by_cases hjl : j < NM.size
          · obtain ⟨z, i0, hz, y1, y2, y3, y4⟩ := HNM.out j hjl
            rcases hz with hz | ⟨hz, hz2⟩
            · go_wp2_with fail
              go_roundg (gk - 1)
              case measure => omega
              case rel => exact ⟨j + 1, by omega, by first | rfl | (rw [wrap64_in _ ⟨by omega, by omega⟩]; rfl) | simp, rfl⟩
            · go_wp2_with fail
              go_roundg (gk - 1)
              case measure => omega
              case rel => exact ⟨j + 1, by omega, by first | rfl | (rw [wrap64_in _ ⟨by omega, by omega⟩]; rfl) | simp, rfl⟩
          · go_wp2_with fail
            go_loopg [10] 0 (fun g v wq => ∃ j : Nat, j + g = 0 ∧ v = .int .i64 (j : Int) ∧ Hid (PartsW w w1.heap.size wo.heap.size (.slice (some ⟨gg, 0, none⟩) l.length vc) (.slice ap 0 ac) l t.attrs wq))
            case atStart => exact ⟨0, by omega, rfl, hide ⟨by simp, own_below HAT.out HW1.out, HTW.out.below HW1.out, bel2 HBR.out HW1.out⟩⟩
            case round =>
              obtain ⟨a, hag, rfl, HPQ⟩ := hrel
              have cq := HPQ.out.1
              by_cases hal : a < 0
              · exact absurd hal (Nat.not_lt_zero _)
              · go_wp2_with fail
                go_roundg (l.length - i - 1)
                case measure => omega
                case rel => exact ⟨i + 1, by omega, by first | rfl | (rw [wrap64_in _ ⟨by omega, by omega⟩]; rfl) | simp, hide HPQ.out.2.2.1, hide HPQ.out.2.2.2⟩
end Go.Proofs.YtjmgcdeinjamiaaDoor
