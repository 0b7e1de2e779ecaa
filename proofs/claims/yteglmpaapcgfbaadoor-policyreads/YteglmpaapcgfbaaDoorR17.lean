/-
  The document's own Read.
-/
import Derived.Test.YteglmpaapcgfbaaDoorR16
namespace Go.Proofs.YteglmpaapcgfbaaDoor
open Go.RowKit
open Utf1 Pol8

theorem strs_off {wx : World} {v : Value} {ss : List ByteArray} (h : StrArg wx v ss) (hne : ss ≠ []) {g : Nat} {A : Array Value} {t : TypeId} (hg : wx.heap[g]? = some (.cells A t (0, 0))) (hA : ∀ (j : Nat) (y : ByteArray), A[j]? ≠ some (.string y)) :
    ∃ b off cap, v = .slice (some ⟨b, off, none⟩) ss.length cap ∧ b ≠ g ∧ b < wx.heap.size ∧ ∀ i y, ss[i]? = some y → wx.cell? ⟨b, off + i, none⟩ = some (.string y) := by
  obtain ⟨p, cap, rfl, h0, hc⟩ := h
  cases ss with
  | nil => exact absurd rfl hne
  | cons x r =>
    obtain ⟨b, off, rfl, h1⟩ := hc 0 x rfl
    refine ⟨b, off, cap, rfl, ?_, ?_, ?_⟩
    · intro e
      subst e
      unfold World.cell? at h1
      rw [hg] at h1
      exact hA _ _ h1
    · unfold World.cell? at h1
      by_cases hb : b < wx.heap.size
      · exact hb
      · rw [Array.getElem?_eq_none (by show wx.heap.size ≤ b; omega)] at h1
        cases h1
    · intro i y hi
      obtain ⟨b', off', e, h2⟩ := hc i y hi
      injection e with e
      injection e with e1 e2
      subst e1 e2
      exact h2
theorem noStr (e d n b : Int) (p1 p2 p3 p4 p5 : Option Addr) (n1 n2 n3 n4 n5 c1 c2 c3 c4 c5 : Nat) : ∀ (j : Nat) (y : ByteArray), (#[.int .i64 e, .slice p1 n1 c1, .slice p2 n2 c2, .slice p3 n3 c3, .slice p4 n4 c4, .slice p5 n5 c5, .int .i64 d, .int .i64 n, .int .i64 b] : Array Value)[j]? ≠ some (.string y) := by
  intro j y h
  have hm := Array.mem_of_getElem? h
  simp at hm
/-- What is held at the head of each round. -/
def RI (w w2 : World) (ss : L) (i : Nat) (p1 p2 p3 p4 p5 : Option Addr) (c1 c2 c3 c4 c5 : Nat) (l1 l2 l3 l4 l5 : List ByteArray) (Q : Pol) (wx : World) : Prop :=
  RR w w2 [.slice p1 (List.length l1) c1, .slice p2 (List.length l2) c2, .slice p3 (List.length l3) c3, .slice p4 (List.length l4) c4, .slice p5 (List.length l5) c5] [l1, l2, l3, l4, l5] #[.int .i64 Q.ep, .slice p1 (List.length l1) c1, .slice p2 (List.length l2) c2, .slice p3 (List.length l3) c3, .slice p4 (List.length l4) c4, .slice p5 (List.length l5) c5, .int .i64 Q.dp, .int .i64 Q.nd, .int .i64 Q.bt] wx ∧ l1.map bl = Q.el ∧ l2.map bl = Q.at_ ∧ l3.map bl = Q.sc ∧ l4.map bl = Q.cl ∧ l5.map bl = Q.pr ∧ Q = ((segs 10 ss).take i).foldl putL Pol.zero
theorem list4 {α : Type} {l : List α} (h : l.length = 4) : ∃ a b c d, l = [a, b, c, d] := by
  rcases l with _ | ⟨a, _ | ⟨b, _ | ⟨c, _ | ⟨d, _ | ⟨e, r⟩⟩⟩⟩⟩ <;> simp at h
  exact ⟨a, b, c, d, rfl⟩
theorem list2 {α : Type} {l : List α} (h : l.length = 2) : ∃ a b, l = [a, b] := by
  rcases l with _ | ⟨a, _ | ⟨b, _ | ⟨c, r⟩⟩⟩ <;> simp at h
  exact ⟨a, b, rfl⟩
theorem put_none (p : Pol) (w : List L) (h4 : w.length ≠ 4) (h2 : w.length ≠ 2) : put p w = p := by
  rcases w with _ | ⟨a, _ | ⟨b, _ | ⟨c, _ | ⟨d, _ | ⟨e, r⟩⟩⟩⟩⟩ <;> first | rfl | exact absurd rfl h4 | exact absurd rfl h2
set_option maxRecDepth 100000 in
set_option maxHeartbeats 32000000 in
theorem rread_any : RReadC := by
  intro s w hs hg
  obtain ⟨E0, hE0⟩ : ∃ E0 : Int, E0 = if (readP (bl s)).isSome = true then 0 else 2 := ⟨_, rfl⟩
  obtain ⟨P0, hP0⟩ : ∃ P0, P0 = (readP (bl s)).getD Pol.zero := ⟨_, rfl⟩
  rw [← hE0, ← hP0]
  have HE0 := hide hE0
  have HP0 := hide hP0
  clear hE0 hP0
  have HG := hide hg
  clear hg
  obtain ⟨i0, hi, hz0, hz1, hz2⟩ := info_parts infoStr
  obtain ⟨w1, hw1⟩ : ∃ w1, w1 = (w.alloc (.cells #[.int .i64 0, .slice none 0 0, .slice none 0 0, .slice none 0 0, .slice none 0 0, .slice none 0 0, .int .i64 0, .int .i64 0, .int .i64 0] 24)).alloc (.cells #[.int .i64 0, .slice none 0 0, .slice none 0 0, .slice none 0 0, .slice none 0 0, .slice none 0 0, .int .i64 0, .int .i64 0, .int .i64 0] 24) := ⟨_, rfl⟩
  have H1 : Hid (BoxQ w #[.int .i64 0, .slice none 0 0, .slice none 0 0, .slice none 0 0, .slice none 0 0, .slice none 0 0, .int .i64 0, .int .i64 0, .int .i64 0] #[.int .i64 0, .slice none 0 0, .slice none 0 0, .slice none 0 0, .slice none 0 0, .slice none 0 0, .int .i64 0, .int .i64 0, .int .i64 0] w1) := hide (by rw [hw1]; exact BoxQ.new _ _ _)
  have hsz1 : w1.heap.size = w.heap.size + 1 + 1 := by rw [hw1]; simp
  have C1 := hide (rcut_any 10 s (by omega) w1)
  rw [show (((10 : UInt8).toNat : Nat) : Int) = 10 from rfl] at C1
  go_enter Tryd.func16, Tryd.ntmps16
  go_upto_region 2 with fail
  rw [← hw1]
  clear hw1
  go_wp2_with fail
  refine C1.out.mono ?_
  rintro e w2 ⟨v, ls, rfl, hsa, hls, hb2⟩
  have H2 := hide (H1.out.keep hb2)
  have hsz2 : w.heap.size + 2 ≤ w2.heap.size := by have := hb2.size; omega
  have hne : ls ≠ [] := fun e => by rw [e] at hls; exact segs_ne _ _ hls.symm
  obtain ⟨b, off, cap, rfl, hbg, hbs, hcs⟩ := strs_off hsa hne H2.out.2.1 (noStr 0 0 0 0 none none none none none 0 0 0 0 0 0 0 0 0 0)
  have HLN := hide (And.intro hbg (And.intro hbs hcs))
  have HLS := hide hls
  have hln : ls.length ≤ 4001 := by
    have h := segs_count 10 (bl s)
    rw [← hls, List.length_map, bl_len] at h
    omega
  clear hsa hls hb2 hne hbg hbs hcs C1 H1 hsz1
  have HSZ2 := hide hsz2
  have HHS := hide hs
  clear hsz2 hs
  go_wp2_with fail
  go_loopg [6] ls.length (fun g v6 wr => ∃ (i : Nat) (p1 p2 p3 p4 p5 : Option Addr) (c1 c2 c3 c4 c5 : Nat) (l1 l2 l3 l4 l5 : List ByteArray) (Q : Pol), i + g = ls.length ∧ v6 = .int .i64 (i : Int) ∧ Hid (RI w w2 (bl s) i p1 p2 p3 p4 p5 c1 c2 c3 c4 c5 l1 l2 l3 l4 l5 Q wr))
  case atStart => exact ⟨0, none, none, none, none, none, 0, 0, 0, 0, 0, [], [], [], [], [], Pol.zero, by omega, rfl, hide ⟨⟨H2.out.1, H2.out.2.1, ⟨fun k v l hv hl => (by
      match k with
      | 0 | 1 | 2 | 3 | 4 => (injection hv with hv; injection hl with hl; subst hv hl; exact World.ownsRow_nil _ _ _ _)
      | k + 5 => cases hv), fun j k v u b hv _ hb _ => (by
      exfalso
      match j with
      | 0 | 1 | 2 | 3 | 4 => (injection hv with hv; subst hv; cases hb)
      | j + 5 => cases hv)⟩, H2.out.2.2, Nat.le_refl _, fun _ _ _ => rfl⟩, rfl, rfl, rfl, rfl, rfl, rfl⟩⟩
  case round =>
    obtain ⟨i, p1, p2, p3, p4, p5, c1, c2, c3, c4, c5, l1, l2, l3, l4, l5, Q, hig, rfl, HR⟩ := hrel
    have hle : i ≤ ls.length := by omega
    by_cases hlt : i < ls.length
    · obtain ⟨y, hy⟩ : ∃ y, ls[i]? = some y := ⟨_, List.getElem?_eq_getElem hlt⟩
      have hyz : y.size ≤ 100000 := by
        have hm : bl y ∈ segs 10 (bl s) := by rw [← HLS.out]; exact List.mem_map_of_mem (List.mem_of_getElem? hy)
        have h := seg_len 10 (bl s) (bl y) hm
        rw [bl_len, bl_len] at h
        have := HHS.out
        omega
      have yc : wr.cell? ⟨b, off + i, none⟩ = some (.string y) := (World.cell?_of_block (HR.out.1.2.2.2.2.2 b HLN.out.2.1 HLN.out.1)).trans (HLN.out.2.2 i y hy)
      have HN0 : Hid (((segs 10 (bl s)).take (i + 1)).foldl putL Pol.zero = put Q (segs 32 (bl y))) := hide (by
        have e : (segs 10 (bl s))[i]? = some (bl y) := by rw [← HLS.out, List.getElem?_map, hy]; rfl
        rw [List.take_add_one, e, List.foldl_append, ← HR.out.2.2.2.2.2.2]
        rfl)
      have C2 := hide (rcut_any 32 y hyz wr)
      rw [show (((32 : UInt8).toNat : Nat) : Int) = 32 from rfl] at C2
      clear hy
      have HYZ := hide hyz
      clear hyz
      have HUP : Hid (l1.length ≤ i ∧ l2.length ≤ i ∧ l3.length ≤ i ∧ l4.length ≤ i ∧ l5.length ≤ i) := hide (by
        have h := (upTo_iff _ _ _).1 (upTo_parse (bl s) i)
        rw [← HR.out.2.2.2.2.2.2, ← HR.out.2.1, ← HR.out.2.2.1, ← HR.out.2.2.2.1, ← HR.out.2.2.2.2.1, ← HR.out.2.2.2.2.2.1] at h
        simp only [List.length_map] at h
        exact ⟨h.1.1, h.2.1.1, h.2.2.1.1, h.2.2.2.1.1, h.2.2.2.2.1⟩)
      go_wp2_with fail
      refine C2.out.mono ?_
      rintro e w3 ⟨vw, ws, rfl, hwa, hws, hb3⟩
      have H3 := hide (HR.out.1.keep hb3)
      have HE := hide (And.intro HR.out.2.1 (And.intro HR.out.2.2.1 (And.intro HR.out.2.2.2.1 (And.intro HR.out.2.2.2.2.1 HR.out.2.2.2.2.2.1))))
      have hwne : ws ≠ [] := fun e => by rw [e] at hws; exact segs_ne _ _ hws.symm
      obtain ⟨bw, ow, cw, rfl, hbwg, hbws, hwc⟩ := strs_off hwa hwne H3.out.2.1 (noStr _ _ _ _ _ _ _ _ _ _ _ _ _ _ _ _ _ _ _)
      have HW := hide (And.intro hbwg (And.intro hbws hwc))
      have HN1 := hide HN0.out
      rw [← hws] at HN1
      have HWZ : Hid (∀ x ∈ ws, x.size ≤ 100000) := hide (fun x hx => by
        have h := seg_len 32 (bl y) (bl x) (by rw [← hws]; exact List.mem_map_of_mem hx)
        rw [bl_len, bl_len] at h
        have := HYZ.out
        omega)
      clear C2 HN0 hwa hws hwne hbwg hbws hwc HR yc hb3
      by_cases h4 : ws.length = 4
      · obtain ⟨a, x1, x2, x3, rfl⟩ := list4 h4
        have z0 : w3.cell? ⟨bw, ow, none⟩ = some (.string a) := HW.out.2.2 0 a rfl
        have z1 : w3.cell? ⟨bw, ow + 1, none⟩ = some (.string x1) := HW.out.2.2 1 x1 rfl
        clear h4
        by_cases hc : bl a = kCaps
        · have q : (a.toList == [99, 97, 112, 115]) = true := (eq_lit a [99, 97, 112, 115]).trans (by rw [hc]; rfl)
          have HN : Hid (({ Q with dp := num (bl x1), nd := num (bl x2), bt := num (bl x3) } : Pol) = ((segs 10 (bl s)).take (i + 1)).foldl putL Pol.zero) := hide (by
            rw [HN1.out]
            show _ = if bl a = kCaps then _ else _
            rw [if_pos hc])
          clear hc HN1
          have D1 := hide (rnumber_any x1 (HWZ.out x1 (by simp)) w3)
          go_wp2_with fail
          refine D1.out.mono ?_
          rintro e w3' ⟨rfl, rfl⟩
          clear D1
          have cw4 := tag_cell H3.out.2.1 6 _ rfl
          have uw4 := Go.Joins.unfrozen_of_block H3.out.2.1 6
          obtain ⟨w4, hw4⟩ : ∃ w4, w4 = w3'.setCell ⟨w.heap.size + 1, 6, none⟩ (.int .i64 (num (bl x1) : Int)) := ⟨_, rfl⟩
          have H4 : Hid (RR w w2 [.slice p1 (List.length l1) c1, .slice p2 (List.length l2) c2, .slice p3 (List.length l3) c3, .slice p4 (List.length l4) c4, .slice p5 (List.length l5) c5] [l1, l2, l3, l4, l5] #[.int .i64 Q.ep, .slice p1 (List.length l1) c1, .slice p2 (List.length l2) c2, .slice p3 (List.length l3) c3, .slice p4 (List.length l4) c4, .slice p5 (List.length l5) c5, .int .i64 (num (bl x1) : Int), .int .i64 Q.nd, .int .i64 Q.bt] w4) := hide (by rw [hw4]; exact H3.out.put HSZ2.out 6 (.int .i64 (num (bl x1) : Int)))
          have z2 : w4.cell? ⟨bw, ow + 2, none⟩ = some (.string x2) := (World.cell?_of_block (by rw [hw4]; exact Below.heap_setCell _ _ _ _ HW.out.1)).trans (HW.out.2.2 2 x2 rfl)
          have z3 : w4.cell? ⟨bw, ow + 3, none⟩ = some (.string x3) := (World.cell?_of_block (by rw [hw4]; exact Below.heap_setCell _ _ _ _ HW.out.1)).trans (HW.out.2.2 3 x3 rfl)
          go_upto_region 9 with fail
          rw [← hw4]
          clear hw4 cw4 uw4 z0 z1
          have D2 := hide (rnumber_any x2 (HWZ.out x2 (by simp)) w4)
          go_wp2_with fail
          refine D2.out.mono ?_
          rintro e w3b ⟨rfl, rfl⟩
          clear D2
          have cw5 := tag_cell H4.out.2.1 7 _ rfl
          have uw5 := Go.Joins.unfrozen_of_block H4.out.2.1 7
          obtain ⟨w5, hw5⟩ : ∃ w5, w5 = w3b.setCell ⟨w.heap.size + 1, 7, none⟩ (.int .i64 (num (bl x2) : Int)) := ⟨_, rfl⟩
          have H5 : Hid (RR w w2 [.slice p1 (List.length l1) c1, .slice p2 (List.length l2) c2, .slice p3 (List.length l3) c3, .slice p4 (List.length l4) c4, .slice p5 (List.length l5) c5] [l1, l2, l3, l4, l5] #[.int .i64 Q.ep, .slice p1 (List.length l1) c1, .slice p2 (List.length l2) c2, .slice p3 (List.length l3) c3, .slice p4 (List.length l4) c4, .slice p5 (List.length l5) c5, .int .i64 (num (bl x1) : Int), .int .i64 (num (bl x2) : Int), .int .i64 Q.bt] w5) := hide (by rw [hw5]; exact H4.out.put HSZ2.out 7 (.int .i64 (num (bl x2) : Int)))
          have z4 : w5.cell? ⟨bw, ow + 3, none⟩ = some (.string x3) := (World.cell?_of_block (by rw [hw5]; exact Below.heap_setCell _ _ _ _ HW.out.1)).trans z3
          go_upto_region 10 with fail
          rw [← hw5]
          clear hw5 cw5 uw5 z2 z3
          have D3 := hide (rnumber_any x3 (HWZ.out x3 (by simp)) w5)
          go_wp2_with fail
          refine D3.out.mono ?_
          rintro e w3c ⟨rfl, rfl⟩
          clear D3
          have cw6 := tag_cell H5.out.2.1 8 _ rfl
          have uw6 := Go.Joins.unfrozen_of_block H5.out.2.1 8
          obtain ⟨w6, hw6⟩ : ∃ w6, w6 = w3c.setCell ⟨w.heap.size + 1, 8, none⟩ (.int .i64 (num (bl x3) : Int)) := ⟨_, rfl⟩
          have H6 : Hid (RR w w2 [.slice p1 (List.length l1) c1, .slice p2 (List.length l2) c2, .slice p3 (List.length l3) c3, .slice p4 (List.length l4) c4, .slice p5 (List.length l5) c5] [l1, l2, l3, l4, l5] #[.int .i64 Q.ep, .slice p1 (List.length l1) c1, .slice p2 (List.length l2) c2, .slice p3 (List.length l3) c3, .slice p4 (List.length l4) c4, .slice p5 (List.length l5) c5, .int .i64 (num (bl x1) : Int), .int .i64 (num (bl x2) : Int), .int .i64 (num (bl x3) : Int)] w6) := hide (by rw [hw6]; exact H5.out.put HSZ2.out 8 (.int .i64 (num (bl x3) : Int)))
          go_upto_region 11 with fail
          rw [← hw6]
          clear hw6 cw6 uw6 z4
          go_wp2_with fail
          go_roundg (gk - 1)
          case measure => omega
          case rel => exact ⟨i + 1, p1, p2, p3, p4, p5, c1, c2, c3, c4, c5, l1, l2, l3, l4, l5, { Q with dp := num (bl x1), nd := num (bl x2), bt := num (bl x3) }, by omega, by first | rfl | simp, hide ⟨H6.out, HE.out.1, HE.out.2.1, HE.out.2.2.1, HE.out.2.2.2.1, HE.out.2.2.2.2, HN.out⟩⟩
        · have q : (a.toList == [99, 97, 112, 115]) = false := (eq_lit a [99, 97, 112, 115]).trans (by exact decide_eq_false hc)
          have HN : Hid (Q = ((segs 10 (bl s)).take (i + 1)).foldl putL Pol.zero) := hide (by
            rw [HN1.out]
            show _ = if bl a = kCaps then _ else _
            rw [if_neg hc])
          clear hc HN1
          go_wp2_with fail
          go_roundg (gk - 1)
          case measure => omega
          case rel => exact ⟨i + 1, p1, p2, p3, p4, p5, c1, c2, c3, c4, c5, l1, l2, l3, l4, l5, Q, by omega, by first | rfl | simp, hide ⟨H3.out, HE.out.1, HE.out.2.1, HE.out.2.2.1, HE.out.2.2.2.1, HE.out.2.2.2.2, HN.out⟩⟩

      · by_cases h2 : ws.length = 2
        · obtain ⟨a, x, rfl⟩ := list2 h2
          have z0 : w3.cell? ⟨bw, ow, none⟩ = some (.string a) := HW.out.2.2 0 a rfl
          have z1 : w3.cell? ⟨bw, ow + 1, none⟩ = some (.string x) := HW.out.2.2 1 x rfl
          clear h4 h2
          by_cases hk : bl a = kEpoch
          · have q0 : (a.toList == [101, 112, 111, 99, 104]) = true := (eq_lit a [101, 112, 111, 99, 104]).trans (by rw [hk]; rfl)
            have HN : Hid (({ Q with ep := num (bl x) } : Pol) = ((segs 10 (bl s)).take (i + 1)).foldl putL Pol.zero) := hide (by
              rw [HN1.out]
              show _ = put Q [bl a, bl x]
              rw [hk]
              rfl)
            clear hk HN1
            have D1 := hide (rnumber_any x (HWZ.out x (by simp)) w3)
            go_wp2_with fail
            refine D1.out.mono ?_
            rintro e w3b ⟨rfl, rfl⟩
            clear D1
            have cw4 := tag_cell H3.out.2.1 0 _ rfl
            have uw4 := Go.Joins.unfrozen_of_block H3.out.2.1 0
            obtain ⟨w4, hw4⟩ : ∃ w4, w4 = w3b.setCell ⟨w.heap.size + 1, 0, none⟩ (.int .i64 (num (bl x) : Int)) := ⟨_, rfl⟩
            have H4 : Hid (RR w w2 [.slice p1 (List.length l1) c1, .slice p2 (List.length l2) c2, .slice p3 (List.length l3) c3, .slice p4 (List.length l4) c4, .slice p5 (List.length l5) c5] [l1, l2, l3, l4, l5] #[.int .i64 (num (bl x) : Int), .slice p1 (List.length l1) c1, .slice p2 (List.length l2) c2, .slice p3 (List.length l3) c3, .slice p4 (List.length l4) c4, .slice p5 (List.length l5) c5, .int .i64 Q.dp, .int .i64 Q.nd, .int .i64 Q.bt] w4) := hide (by rw [hw4]; exact H3.out.put HSZ2.out 0 (.int .i64 (num (bl x) : Int)))
            go_upto_region 5 with fail
            rw [← hw4]
            clear hw4 cw4 uw4 z0 z1
            go_wp2_with fail
            go_roundg (gk - 1)
            case measure => omega
            case rel => exact ⟨i + 1, p1, p2, p3, p4, p5, c1, c2, c3, c4, c5, l1, l2, l3, l4, l5, { Q with ep := num (bl x) }, by omega, by first | rfl | simp, hide ⟨H4.out, HE.out.1, HE.out.2.1, HE.out.2.2.1, HE.out.2.2.2.1, HE.out.2.2.2.2, HN.out⟩⟩
          · have hk0 := hk
            clear hk
            by_cases hk : bl a = kElem
            · have q0 : (a.toList == [101, 112, 111, 99, 104]) = false := (eq_lit a [101, 112, 111, 99, 104]).trans (by rw [hk]; rfl)
              have q1 : (a.toList == [101, 108, 101, 109]) = true := (eq_lit a [101, 108, 101, 109]).trans (by rw [hk]; rfl)
              have HN : Hid (({ Q with el := Q.el ++ [bl x] } : Pol) = ((segs 10 (bl s)).take (i + 1)).foldl putL Pol.zero) := hide (by
                rw [HN1.out]
                show _ = put Q [bl a, bl x]
                rw [hk]
                rfl)
              clear hk HN1
              have HOW : Hid (((w3.alloc (.cells #[.string x] 9)).drew).ownsRow w2.heap.size 9 1 (.slice p1 (List.length l1) c1) (List.length l1) (strV l1)) := hide ((H3.out.2.2.1.1 0 _ _ rfl rfl).alloc _).drew
              have HCE : Hid (((w3.alloc (.cells #[.string x] 9)).drew).cell? ⟨w3.heap.size, 0, none⟩ = some (.string x)) := hide (show (w3.alloc (.cells #[.string x] 9)).cell? ⟨w3.heap.size, 0, none⟩ = some (.string x) from by simp)
              have H3D : Hid (RR w w2 [.slice p1 (List.length l1) c1, .slice p2 (List.length l2) c2, .slice p3 (List.length l3) c3, .slice p4 (List.length l4) c4, .slice p5 (List.length l5) c5] [l1, l2, l3, l4, l5] #[.int .i64 Q.ep, .slice p1 (List.length l1) c1, .slice p2 (List.length l2) c2, .slice p3 (List.length l3) c3, .slice p4 (List.length l4) c4, .slice p5 (List.length l5) c5, .int .i64 Q.dp, .int .i64 Q.nd, .int .i64 Q.bt] ((w3.alloc (.cells #[.string x] 9)).drew)) := hide (H3.out.keep (bel_alloc (Below.refl _ _) _).drew)
              have hlk : List.length l1 ≤ 4001 := by have := HUP.out; omega
              have cA := tag_cell H3.out.2.1 1 _ rfl
              have cB : (w3.alloc (.cells #[.string x] 9)).cell? ⟨w.heap.size + 1, 1, none⟩ = some (.slice p1 (List.length l1) c1) := tag_cell H3D.out.2.1 1 _ rfl
              go_wp2_with fail
              go_region_law (refine step_mine rfl (.tmp 63) (.tmp 67) 22 rfl w2.heap.size 9 i0 _ 16 Tryd.underlying22 hi hz0 hz1 hz2 rfl p1 (List.length l1) c1 (strV l1) rfl HOW.out ⟨w3.heap.size, 0, none⟩ 1 (.string x) rfl HCE.out (by simp [Value.oneCell']) (by unfold maxLen; omega) (by omega) H3D.out.2.2.2.2.1 ?_; intro p9 c9 w9 k1 k2 k3; have HX : Hid (RR w w2 [.slice p9 (List.length l1 + 1) c9, .slice p2 (List.length l2) c2, .slice p3 (List.length l3) c3, .slice p4 (List.length l4) c4, .slice p5 (List.length l5) c5] [l1 ++ [x], l2, l3, l4, l5] #[.int .i64 Q.ep, .slice p1 (List.length l1) c1, .slice p2 (List.length l2) c2, .slice p3 (List.length l3) c3, .slice p4 (List.length l4) c4, .slice p5 (List.length l5) c5, .int .i64 Q.dp, .int .i64 Q.nd, .int .i64 Q.bt] w9) := hide (H3D.out.push HSZ2.out rfl 0 rfl (l' := l1 ++ [x]) (by rw [strV_app, List.length_append]; exact k1) k2 k3); have f1 := tag_cell HX.out.2.1 1 _ rfl; have f2 := Go.Joins.unfrozen_of_block HX.out.2.1 1; clear k1 k2 k3)
              all_goals
                obtain ⟨w5, hw5⟩ : ∃ w5, w5 = w9.setCell ⟨w.heap.size + 1, 1, none⟩ (.slice p9 (List.length l1 + 1) c9) := ⟨_, rfl⟩
                have H6 : Hid (RR w w2 [.slice p9 (List.length (l1 ++ [x])) c9, .slice p2 (List.length l2) c2, .slice p3 (List.length l3) c3, .slice p4 (List.length l4) c4, .slice p5 (List.length l5) c5] [l1 ++ [x], l2, l3, l4, l5] #[.int .i64 Q.ep, .slice p9 (List.length (l1 ++ [x])) c9, .slice p2 (List.length l2) c2, .slice p3 (List.length l3) c3, .slice p4 (List.length l4) c4, .slice p5 (List.length l5) c5, .int .i64 Q.dp, .int .i64 Q.nd, .int .i64 Q.bt] w5) := hide (by
                  have e : List.length l1 + 1 = List.length (l1 ++ [x]) := by simp
                  rw [hw5, ← e]
                  exact HX.out.put HSZ2.out 1 _)
                rw [← hw5]
                clear hw5 f1 f2 HX cA cB HOW HCE H3D
                go_wp2_with fail
                go_roundg (gk - 1)
                case measure => omega
                case rel => exact ⟨i + 1, p9, p2, p3, p4, p5, c9, c2, c3, c4, c5, l1 ++ [x], l2, l3, l4, l5, { Q with el := Q.el ++ [bl x] }, by omega, by first | rfl | simp, hide ⟨H6.out, (by rw [List.map_append, HE.out.1]; rfl), HE.out.2.1, HE.out.2.2.1, HE.out.2.2.2.1, HE.out.2.2.2.2, HN.out⟩⟩
            · have hk1 := hk
              clear hk
              by_cases hk : bl a = kAttr
              · have q0 : (a.toList == [101, 112, 111, 99, 104]) = false := (eq_lit a [101, 112, 111, 99, 104]).trans (by rw [hk]; rfl)
                have q1 : (a.toList == [101, 108, 101, 109]) = false := (eq_lit a [101, 108, 101, 109]).trans (by rw [hk]; rfl)
                have q2 : (a.toList == [97, 116, 116, 114]) = true := (eq_lit a [97, 116, 116, 114]).trans (by rw [hk]; rfl)
                have HN : Hid (({ Q with at_ := Q.at_ ++ [bl x] } : Pol) = ((segs 10 (bl s)).take (i + 1)).foldl putL Pol.zero) := hide (by
                  rw [HN1.out]
                  show _ = put Q [bl a, bl x]
                  rw [hk]
                  rfl)
                clear hk HN1
                have HOW : Hid (((w3.alloc (.cells #[.string x] 9)).drew).ownsRow w2.heap.size 9 1 (.slice p2 (List.length l2) c2) (List.length l2) (strV l2)) := hide ((H3.out.2.2.1.1 1 _ _ rfl rfl).alloc _).drew
                have HCE : Hid (((w3.alloc (.cells #[.string x] 9)).drew).cell? ⟨w3.heap.size, 0, none⟩ = some (.string x)) := hide (show (w3.alloc (.cells #[.string x] 9)).cell? ⟨w3.heap.size, 0, none⟩ = some (.string x) from by simp)
                have H3D : Hid (RR w w2 [.slice p1 (List.length l1) c1, .slice p2 (List.length l2) c2, .slice p3 (List.length l3) c3, .slice p4 (List.length l4) c4, .slice p5 (List.length l5) c5] [l1, l2, l3, l4, l5] #[.int .i64 Q.ep, .slice p1 (List.length l1) c1, .slice p2 (List.length l2) c2, .slice p3 (List.length l3) c3, .slice p4 (List.length l4) c4, .slice p5 (List.length l5) c5, .int .i64 Q.dp, .int .i64 Q.nd, .int .i64 Q.bt] ((w3.alloc (.cells #[.string x] 9)).drew)) := hide (H3.out.keep (bel_alloc (Below.refl _ _) _).drew)
                have hlk : List.length l2 ≤ 4001 := by have := HUP.out; omega
                have cA := tag_cell H3.out.2.1 2 _ rfl
                have cB : (w3.alloc (.cells #[.string x] 9)).cell? ⟨w.heap.size + 1, 2, none⟩ = some (.slice p2 (List.length l2) c2) := tag_cell H3D.out.2.1 2 _ rfl
                go_wp2_with fail
                go_region_law (refine step_mine rfl (.tmp 73) (.tmp 77) 22 rfl w2.heap.size 9 i0 _ 16 Tryd.underlying22 hi hz0 hz1 hz2 rfl p2 (List.length l2) c2 (strV l2) rfl HOW.out ⟨w3.heap.size, 0, none⟩ 1 (.string x) rfl HCE.out (by simp [Value.oneCell']) (by unfold maxLen; omega) (by omega) H3D.out.2.2.2.2.1 ?_; intro p9 c9 w9 k1 k2 k3; have HX : Hid (RR w w2 [.slice p1 (List.length l1) c1, .slice p9 (List.length l2 + 1) c9, .slice p3 (List.length l3) c3, .slice p4 (List.length l4) c4, .slice p5 (List.length l5) c5] [l1, l2 ++ [x], l3, l4, l5] #[.int .i64 Q.ep, .slice p1 (List.length l1) c1, .slice p2 (List.length l2) c2, .slice p3 (List.length l3) c3, .slice p4 (List.length l4) c4, .slice p5 (List.length l5) c5, .int .i64 Q.dp, .int .i64 Q.nd, .int .i64 Q.bt] w9) := hide (H3D.out.push HSZ2.out rfl 1 rfl (l' := l2 ++ [x]) (by rw [strV_app, List.length_append]; exact k1) k2 k3); have f1 := tag_cell HX.out.2.1 2 _ rfl; have f2 := Go.Joins.unfrozen_of_block HX.out.2.1 2; clear k1 k2 k3)
                all_goals
                  obtain ⟨w5, hw5⟩ : ∃ w5, w5 = w9.setCell ⟨w.heap.size + 1, 2, none⟩ (.slice p9 (List.length l2 + 1) c9) := ⟨_, rfl⟩
                  have H6 : Hid (RR w w2 [.slice p1 (List.length l1) c1, .slice p9 (List.length (l2 ++ [x])) c9, .slice p3 (List.length l3) c3, .slice p4 (List.length l4) c4, .slice p5 (List.length l5) c5] [l1, l2 ++ [x], l3, l4, l5] #[.int .i64 Q.ep, .slice p1 (List.length l1) c1, .slice p9 (List.length (l2 ++ [x])) c9, .slice p3 (List.length l3) c3, .slice p4 (List.length l4) c4, .slice p5 (List.length l5) c5, .int .i64 Q.dp, .int .i64 Q.nd, .int .i64 Q.bt] w5) := hide (by
                    have e : List.length l2 + 1 = List.length (l2 ++ [x]) := by simp
                    rw [hw5, ← e]
                    exact HX.out.put HSZ2.out 2 _)
                  rw [← hw5]
                  clear hw5 f1 f2 HX cA cB HOW HCE H3D
                  go_wp2_with fail
                  go_roundg (gk - 1)
                  case measure => omega
                  case rel => exact ⟨i + 1, p1, p9, p3, p4, p5, c1, c9, c3, c4, c5, l1, l2 ++ [x], l3, l4, l5, { Q with at_ := Q.at_ ++ [bl x] }, by omega, by first | rfl | simp, hide ⟨H6.out, HE.out.1, (by rw [List.map_append, HE.out.2.1]; rfl), HE.out.2.2.1, HE.out.2.2.2.1, HE.out.2.2.2.2, HN.out⟩⟩
              · have hk2 := hk
                clear hk
                by_cases hk : bl a = kScheme
                · have q0 : (a.toList == [101, 112, 111, 99, 104]) = false := (eq_lit a [101, 112, 111, 99, 104]).trans (by rw [hk]; rfl)
                  have q1 : (a.toList == [101, 108, 101, 109]) = false := (eq_lit a [101, 108, 101, 109]).trans (by rw [hk]; rfl)
                  have q2 : (a.toList == [97, 116, 116, 114]) = false := (eq_lit a [97, 116, 116, 114]).trans (by rw [hk]; rfl)
                  have q3 : (a.toList == [115, 99, 104, 101, 109, 101]) = true := (eq_lit a [115, 99, 104, 101, 109, 101]).trans (by rw [hk]; rfl)
                  have HN : Hid (({ Q with sc := Q.sc ++ [bl x] } : Pol) = ((segs 10 (bl s)).take (i + 1)).foldl putL Pol.zero) := hide (by
                    rw [HN1.out]
                    show _ = put Q [bl a, bl x]
                    rw [hk]
                    rfl)
                  clear hk HN1
                  have HOW : Hid (((w3.alloc (.cells #[.string x] 9)).drew).ownsRow w2.heap.size 9 1 (.slice p3 (List.length l3) c3) (List.length l3) (strV l3)) := hide ((H3.out.2.2.1.1 2 _ _ rfl rfl).alloc _).drew
                  have HCE : Hid (((w3.alloc (.cells #[.string x] 9)).drew).cell? ⟨w3.heap.size, 0, none⟩ = some (.string x)) := hide (show (w3.alloc (.cells #[.string x] 9)).cell? ⟨w3.heap.size, 0, none⟩ = some (.string x) from by simp)
                  have H3D : Hid (RR w w2 [.slice p1 (List.length l1) c1, .slice p2 (List.length l2) c2, .slice p3 (List.length l3) c3, .slice p4 (List.length l4) c4, .slice p5 (List.length l5) c5] [l1, l2, l3, l4, l5] #[.int .i64 Q.ep, .slice p1 (List.length l1) c1, .slice p2 (List.length l2) c2, .slice p3 (List.length l3) c3, .slice p4 (List.length l4) c4, .slice p5 (List.length l5) c5, .int .i64 Q.dp, .int .i64 Q.nd, .int .i64 Q.bt] ((w3.alloc (.cells #[.string x] 9)).drew)) := hide (H3.out.keep (bel_alloc (Below.refl _ _) _).drew)
                  have hlk : List.length l3 ≤ 4001 := by have := HUP.out; omega
                  have cA := tag_cell H3.out.2.1 3 _ rfl
                  have cB : (w3.alloc (.cells #[.string x] 9)).cell? ⟨w.heap.size + 1, 3, none⟩ = some (.slice p3 (List.length l3) c3) := tag_cell H3D.out.2.1 3 _ rfl
                  go_wp2_with fail
                  go_region_law (refine step_mine rfl (.tmp 83) (.tmp 87) 22 rfl w2.heap.size 9 i0 _ 16 Tryd.underlying22 hi hz0 hz1 hz2 rfl p3 (List.length l3) c3 (strV l3) rfl HOW.out ⟨w3.heap.size, 0, none⟩ 1 (.string x) rfl HCE.out (by simp [Value.oneCell']) (by unfold maxLen; omega) (by omega) H3D.out.2.2.2.2.1 ?_; intro p9 c9 w9 k1 k2 k3; have HX : Hid (RR w w2 [.slice p1 (List.length l1) c1, .slice p2 (List.length l2) c2, .slice p9 (List.length l3 + 1) c9, .slice p4 (List.length l4) c4, .slice p5 (List.length l5) c5] [l1, l2, l3 ++ [x], l4, l5] #[.int .i64 Q.ep, .slice p1 (List.length l1) c1, .slice p2 (List.length l2) c2, .slice p3 (List.length l3) c3, .slice p4 (List.length l4) c4, .slice p5 (List.length l5) c5, .int .i64 Q.dp, .int .i64 Q.nd, .int .i64 Q.bt] w9) := hide (H3D.out.push HSZ2.out rfl 2 rfl (l' := l3 ++ [x]) (by rw [strV_app, List.length_append]; exact k1) k2 k3); have f1 := tag_cell HX.out.2.1 3 _ rfl; have f2 := Go.Joins.unfrozen_of_block HX.out.2.1 3; clear k1 k2 k3)
                  all_goals
                    obtain ⟨w5, hw5⟩ : ∃ w5, w5 = w9.setCell ⟨w.heap.size + 1, 3, none⟩ (.slice p9 (List.length l3 + 1) c9) := ⟨_, rfl⟩
                    have H6 : Hid (RR w w2 [.slice p1 (List.length l1) c1, .slice p2 (List.length l2) c2, .slice p9 (List.length (l3 ++ [x])) c9, .slice p4 (List.length l4) c4, .slice p5 (List.length l5) c5] [l1, l2, l3 ++ [x], l4, l5] #[.int .i64 Q.ep, .slice p1 (List.length l1) c1, .slice p2 (List.length l2) c2, .slice p9 (List.length (l3 ++ [x])) c9, .slice p4 (List.length l4) c4, .slice p5 (List.length l5) c5, .int .i64 Q.dp, .int .i64 Q.nd, .int .i64 Q.bt] w5) := hide (by
                      have e : List.length l3 + 1 = List.length (l3 ++ [x]) := by simp
                      rw [hw5, ← e]
                      exact HX.out.put HSZ2.out 3 _)
                    rw [← hw5]
                    clear hw5 f1 f2 HX cA cB HOW HCE H3D
                    go_wp2_with fail
                    go_roundg (gk - 1)
                    case measure => omega
                    case rel => exact ⟨i + 1, p1, p2, p9, p4, p5, c1, c2, c9, c4, c5, l1, l2, l3 ++ [x], l4, l5, { Q with sc := Q.sc ++ [bl x] }, by omega, by first | rfl | simp, hide ⟨H6.out, HE.out.1, HE.out.2.1, (by rw [List.map_append, HE.out.2.2.1]; rfl), HE.out.2.2.2.1, HE.out.2.2.2.2, HN.out⟩⟩
                · have hk3 := hk
                  clear hk
                  by_cases hk : bl a = kClass
                  · have q0 : (a.toList == [101, 112, 111, 99, 104]) = false := (eq_lit a [101, 112, 111, 99, 104]).trans (by rw [hk]; rfl)
                    have q1 : (a.toList == [101, 108, 101, 109]) = false := (eq_lit a [101, 108, 101, 109]).trans (by rw [hk]; rfl)
                    have q2 : (a.toList == [97, 116, 116, 114]) = false := (eq_lit a [97, 116, 116, 114]).trans (by rw [hk]; rfl)
                    have q3 : (a.toList == [115, 99, 104, 101, 109, 101]) = false := (eq_lit a [115, 99, 104, 101, 109, 101]).trans (by rw [hk]; rfl)
                    have q4 : (a.toList == [99, 108, 97, 115, 115]) = true := (eq_lit a [99, 108, 97, 115, 115]).trans (by rw [hk]; rfl)
                    have HN : Hid (({ Q with cl := Q.cl ++ [bl x] } : Pol) = ((segs 10 (bl s)).take (i + 1)).foldl putL Pol.zero) := hide (by
                      rw [HN1.out]
                      show _ = put Q [bl a, bl x]
                      rw [hk]
                      rfl)
                    clear hk HN1
                    have HOW : Hid (((w3.alloc (.cells #[.string x] 9)).drew).ownsRow w2.heap.size 9 1 (.slice p4 (List.length l4) c4) (List.length l4) (strV l4)) := hide ((H3.out.2.2.1.1 3 _ _ rfl rfl).alloc _).drew
                    have HCE : Hid (((w3.alloc (.cells #[.string x] 9)).drew).cell? ⟨w3.heap.size, 0, none⟩ = some (.string x)) := hide (show (w3.alloc (.cells #[.string x] 9)).cell? ⟨w3.heap.size, 0, none⟩ = some (.string x) from by simp)
                    have H3D : Hid (RR w w2 [.slice p1 (List.length l1) c1, .slice p2 (List.length l2) c2, .slice p3 (List.length l3) c3, .slice p4 (List.length l4) c4, .slice p5 (List.length l5) c5] [l1, l2, l3, l4, l5] #[.int .i64 Q.ep, .slice p1 (List.length l1) c1, .slice p2 (List.length l2) c2, .slice p3 (List.length l3) c3, .slice p4 (List.length l4) c4, .slice p5 (List.length l5) c5, .int .i64 Q.dp, .int .i64 Q.nd, .int .i64 Q.bt] ((w3.alloc (.cells #[.string x] 9)).drew)) := hide (H3.out.keep (bel_alloc (Below.refl _ _) _).drew)
                    have hlk : List.length l4 ≤ 4001 := by have := HUP.out; omega
                    have cA := tag_cell H3.out.2.1 4 _ rfl
                    have cB : (w3.alloc (.cells #[.string x] 9)).cell? ⟨w.heap.size + 1, 4, none⟩ = some (.slice p4 (List.length l4) c4) := tag_cell H3D.out.2.1 4 _ rfl
                    go_wp2_with fail
                    go_region_law (refine step_mine rfl (.tmp 93) (.tmp 97) 22 rfl w2.heap.size 9 i0 _ 16 Tryd.underlying22 hi hz0 hz1 hz2 rfl p4 (List.length l4) c4 (strV l4) rfl HOW.out ⟨w3.heap.size, 0, none⟩ 1 (.string x) rfl HCE.out (by simp [Value.oneCell']) (by unfold maxLen; omega) (by omega) H3D.out.2.2.2.2.1 ?_; intro p9 c9 w9 k1 k2 k3; have HX : Hid (RR w w2 [.slice p1 (List.length l1) c1, .slice p2 (List.length l2) c2, .slice p3 (List.length l3) c3, .slice p9 (List.length l4 + 1) c9, .slice p5 (List.length l5) c5] [l1, l2, l3, l4 ++ [x], l5] #[.int .i64 Q.ep, .slice p1 (List.length l1) c1, .slice p2 (List.length l2) c2, .slice p3 (List.length l3) c3, .slice p4 (List.length l4) c4, .slice p5 (List.length l5) c5, .int .i64 Q.dp, .int .i64 Q.nd, .int .i64 Q.bt] w9) := hide (H3D.out.push HSZ2.out rfl 3 rfl (l' := l4 ++ [x]) (by rw [strV_app, List.length_append]; exact k1) k2 k3); have f1 := tag_cell HX.out.2.1 4 _ rfl; have f2 := Go.Joins.unfrozen_of_block HX.out.2.1 4; clear k1 k2 k3)
                    all_goals
                      obtain ⟨w5, hw5⟩ : ∃ w5, w5 = w9.setCell ⟨w.heap.size + 1, 4, none⟩ (.slice p9 (List.length l4 + 1) c9) := ⟨_, rfl⟩
                      have H6 : Hid (RR w w2 [.slice p1 (List.length l1) c1, .slice p2 (List.length l2) c2, .slice p3 (List.length l3) c3, .slice p9 (List.length (l4 ++ [x])) c9, .slice p5 (List.length l5) c5] [l1, l2, l3, l4 ++ [x], l5] #[.int .i64 Q.ep, .slice p1 (List.length l1) c1, .slice p2 (List.length l2) c2, .slice p3 (List.length l3) c3, .slice p9 (List.length (l4 ++ [x])) c9, .slice p5 (List.length l5) c5, .int .i64 Q.dp, .int .i64 Q.nd, .int .i64 Q.bt] w5) := hide (by
                        have e : List.length l4 + 1 = List.length (l4 ++ [x]) := by simp
                        rw [hw5, ← e]
                        exact HX.out.put HSZ2.out 4 _)
                      rw [← hw5]
                      clear hw5 f1 f2 HX cA cB HOW HCE H3D
                      go_wp2_with fail
                      go_roundg (gk - 1)
                      case measure => omega
                      case rel => exact ⟨i + 1, p1, p2, p3, p9, p5, c1, c2, c3, c9, c5, l1, l2, l3, l4 ++ [x], l5, { Q with cl := Q.cl ++ [bl x] }, by omega, by first | rfl | simp, hide ⟨H6.out, HE.out.1, HE.out.2.1, HE.out.2.2.1, (by rw [List.map_append, HE.out.2.2.2.1]; rfl), HE.out.2.2.2.2, HN.out⟩⟩
                  · have hk4 := hk
                    clear hk
                    by_cases hk : bl a = kProp
                    · have q0 : (a.toList == [101, 112, 111, 99, 104]) = false := (eq_lit a [101, 112, 111, 99, 104]).trans (by rw [hk]; rfl)
                      have q1 : (a.toList == [101, 108, 101, 109]) = false := (eq_lit a [101, 108, 101, 109]).trans (by rw [hk]; rfl)
                      have q2 : (a.toList == [97, 116, 116, 114]) = false := (eq_lit a [97, 116, 116, 114]).trans (by rw [hk]; rfl)
                      have q3 : (a.toList == [115, 99, 104, 101, 109, 101]) = false := (eq_lit a [115, 99, 104, 101, 109, 101]).trans (by rw [hk]; rfl)
                      have q4 : (a.toList == [99, 108, 97, 115, 115]) = false := (eq_lit a [99, 108, 97, 115, 115]).trans (by rw [hk]; rfl)
                      have q5 : (a.toList == [112, 114, 111, 112]) = true := (eq_lit a [112, 114, 111, 112]).trans (by rw [hk]; rfl)
                      have HN : Hid (({ Q with pr := Q.pr ++ [bl x] } : Pol) = ((segs 10 (bl s)).take (i + 1)).foldl putL Pol.zero) := hide (by
                        rw [HN1.out]
                        show _ = put Q [bl a, bl x]
                        rw [hk]
                        rfl)
                      clear hk HN1
                      have HOW : Hid (((w3.alloc (.cells #[.string x] 9)).drew).ownsRow w2.heap.size 9 1 (.slice p5 (List.length l5) c5) (List.length l5) (strV l5)) := hide ((H3.out.2.2.1.1 4 _ _ rfl rfl).alloc _).drew
                      have HCE : Hid (((w3.alloc (.cells #[.string x] 9)).drew).cell? ⟨w3.heap.size, 0, none⟩ = some (.string x)) := hide (show (w3.alloc (.cells #[.string x] 9)).cell? ⟨w3.heap.size, 0, none⟩ = some (.string x) from by simp)
                      have H3D : Hid (RR w w2 [.slice p1 (List.length l1) c1, .slice p2 (List.length l2) c2, .slice p3 (List.length l3) c3, .slice p4 (List.length l4) c4, .slice p5 (List.length l5) c5] [l1, l2, l3, l4, l5] #[.int .i64 Q.ep, .slice p1 (List.length l1) c1, .slice p2 (List.length l2) c2, .slice p3 (List.length l3) c3, .slice p4 (List.length l4) c4, .slice p5 (List.length l5) c5, .int .i64 Q.dp, .int .i64 Q.nd, .int .i64 Q.bt] ((w3.alloc (.cells #[.string x] 9)).drew)) := hide (H3.out.keep (bel_alloc (Below.refl _ _) _).drew)
                      have hlk : List.length l5 ≤ 4001 := by have := HUP.out; omega
                      have cA := tag_cell H3.out.2.1 5 _ rfl
                      have cB : (w3.alloc (.cells #[.string x] 9)).cell? ⟨w.heap.size + 1, 5, none⟩ = some (.slice p5 (List.length l5) c5) := tag_cell H3D.out.2.1 5 _ rfl
                      go_wp2_with fail
                      go_region_law (refine step_mine rfl (.tmp 103) (.tmp 107) 22 rfl w2.heap.size 9 i0 _ 16 Tryd.underlying22 hi hz0 hz1 hz2 rfl p5 (List.length l5) c5 (strV l5) rfl HOW.out ⟨w3.heap.size, 0, none⟩ 1 (.string x) rfl HCE.out (by simp [Value.oneCell']) (by unfold maxLen; omega) (by omega) H3D.out.2.2.2.2.1 ?_; intro p9 c9 w9 k1 k2 k3; have HX : Hid (RR w w2 [.slice p1 (List.length l1) c1, .slice p2 (List.length l2) c2, .slice p3 (List.length l3) c3, .slice p4 (List.length l4) c4, .slice p9 (List.length l5 + 1) c9] [l1, l2, l3, l4, l5 ++ [x]] #[.int .i64 Q.ep, .slice p1 (List.length l1) c1, .slice p2 (List.length l2) c2, .slice p3 (List.length l3) c3, .slice p4 (List.length l4) c4, .slice p5 (List.length l5) c5, .int .i64 Q.dp, .int .i64 Q.nd, .int .i64 Q.bt] w9) := hide (H3D.out.push HSZ2.out rfl 4 rfl (l' := l5 ++ [x]) (by rw [strV_app, List.length_append]; exact k1) k2 k3); have f1 := tag_cell HX.out.2.1 5 _ rfl; have f2 := Go.Joins.unfrozen_of_block HX.out.2.1 5; clear k1 k2 k3)
                      all_goals
                        obtain ⟨w5, hw5⟩ : ∃ w5, w5 = w9.setCell ⟨w.heap.size + 1, 5, none⟩ (.slice p9 (List.length l5 + 1) c9) := ⟨_, rfl⟩
                        have H6 : Hid (RR w w2 [.slice p1 (List.length l1) c1, .slice p2 (List.length l2) c2, .slice p3 (List.length l3) c3, .slice p4 (List.length l4) c4, .slice p9 (List.length (l5 ++ [x])) c9] [l1, l2, l3, l4, l5 ++ [x]] #[.int .i64 Q.ep, .slice p1 (List.length l1) c1, .slice p2 (List.length l2) c2, .slice p3 (List.length l3) c3, .slice p4 (List.length l4) c4, .slice p9 (List.length (l5 ++ [x])) c9, .int .i64 Q.dp, .int .i64 Q.nd, .int .i64 Q.bt] w5) := hide (by
                          have e : List.length l5 + 1 = List.length (l5 ++ [x]) := by simp
                          rw [hw5, ← e]
                          exact HX.out.put HSZ2.out 5 _)
                        rw [← hw5]
                        clear hw5 f1 f2 HX cA cB HOW HCE H3D
                        go_wp2_with fail
                        go_roundg (gk - 1)
                        case measure => omega
                        case rel => exact ⟨i + 1, p1, p2, p3, p4, p9, c1, c2, c3, c4, c9, l1, l2, l3, l4, l5 ++ [x], { Q with pr := Q.pr ++ [bl x] }, by omega, by first | rfl | simp, hide ⟨H6.out, HE.out.1, HE.out.2.1, HE.out.2.2.1, HE.out.2.2.2.1, (by rw [List.map_append, HE.out.2.2.2.2]; rfl), HN.out⟩⟩
                    · have hk5 := hk
                      clear hk
                      have q0 : (a.toList == [101, 112, 111, 99, 104]) = false := (eq_lit a [101, 112, 111, 99, 104]).trans (by exact decide_eq_false hk0)
                      have q1 : (a.toList == [101, 108, 101, 109]) = false := (eq_lit a [101, 108, 101, 109]).trans (by exact decide_eq_false hk1)
                      have q2 : (a.toList == [97, 116, 116, 114]) = false := (eq_lit a [97, 116, 116, 114]).trans (by exact decide_eq_false hk2)
                      have q3 : (a.toList == [115, 99, 104, 101, 109, 101]) = false := (eq_lit a [115, 99, 104, 101, 109, 101]).trans (by exact decide_eq_false hk3)
                      have q4 : (a.toList == [99, 108, 97, 115, 115]) = false := (eq_lit a [99, 108, 97, 115, 115]).trans (by exact decide_eq_false hk4)
                      have q5 : (a.toList == [112, 114, 111, 112]) = false := (eq_lit a [112, 114, 111, 112]).trans (by exact decide_eq_false hk5)
                      have HN : Hid (Q = ((segs 10 (bl s)).take (i + 1)).foldl putL Pol.zero) := hide (by
                        rw [HN1.out]
                        show _ = if bl a = kEpoch then _ else if bl a = kElem then _ else if bl a = kAttr then _ else if bl a = kScheme then _ else if bl a = kClass then _ else if bl a = kProp then _ else _
                        rw [if_neg hk0, if_neg hk1, if_neg hk2, if_neg hk3, if_neg hk4, if_neg hk5])
                      clear HN1 hk0 hk1 hk2 hk3 hk4 hk5
                      go_wp2_with fail
                      go_roundg (gk - 1)
                      case measure => omega
                      case rel => exact ⟨i + 1, p1, p2, p3, p4, p5, c1, c2, c3, c4, c5, l1, l2, l3, l4, l5, Q, by omega, by first | rfl | simp, hide ⟨H3.out, HE.out.1, HE.out.2.1, HE.out.2.2.1, HE.out.2.2.2.1, HE.out.2.2.2.2, HN.out⟩⟩
        · have k4 : ((ws.length : Int) == 4) = false := beq_eq_false_iff_ne.2 (by omega)
          have k2 : ((ws.length : Int) == 2) = false := beq_eq_false_iff_ne.2 (by omega)
          have k2' : ((ws.length : Int) != 2) = true := by rw [bne, k2]; rfl
          have HN : Hid (Q = ((segs 10 (bl s)).take (i + 1)).foldl putL Pol.zero) := hide (by
            rw [HN1.out, put_none Q _ (by rw [List.length_map]; exact h4) (by rw [List.length_map]; exact h2)])
          clear HN1 h4 h2
          go_wp2_with fail
          go_roundg (gk - 1)
          case measure => omega
          case rel => exact ⟨i + 1, p1, p2, p3, p4, p5, c1, c2, c3, c4, c5, l1, l2, l3, l4, l5, Q, by omega, by first | rfl | simp, hide ⟨H3.out, HE.out.1, HE.out.2.1, HE.out.2.2.1, HE.out.2.2.2.1, HE.out.2.2.2.2, HN.out⟩⟩

    · have hi' : i = ls.length := by omega
      have hq : Q = parse (bl s) := by
        have h := HR.out.2.2.2.2.2.2
        rw [List.take_of_length_le (by rw [← HLS.out, List.length_map]; omega)] at h
        exact h
      have HFQ : Hid (fits Q) := hide (by rw [hq]; exact parse_fits _ (by rw [bl_len]; have := HHS.out; omega))
      have HP : Hid (readP (bl s) = if right Q = true ∧ text Q = bl s then some Q else none) := hide (by rw [hq]; rfl)
      clear hq hig hi' hle
      have HV3 : Hid (PolV wr (.slice p1 (List.length l1) c1) (.slice p2 (List.length l2) c2) (.slice p3 (List.length l3) c3) (.slice p4 (List.length l4) c4) (.slice p5 (List.length l5) c5) Q l1 l2 l3 l4 l5) := hide ⟨own_arg (HR.out.1.2.2.1.1 0 _ _ rfl rfl), own_arg (HR.out.1.2.2.1.1 1 _ _ rfl rfl), own_arg (HR.out.1.2.2.1.1 2 _ _ rfl rfl), own_arg (HR.out.1.2.2.1.1 3 _ _ rfl rfl), own_arg (HR.out.1.2.2.1.1 4 _ _ rfl rfl), HR.out.2.1, HR.out.2.2.1, HR.out.2.2.2.1, HR.out.2.2.2.2.1, HR.out.2.2.2.2.2.1, HG.out.below HR.out.1.2.2.2.1⟩
      have NBX : ∀ (k : Nat) (p : Option Addr) (n c : Nat) (l : List ByteArray), ([.slice p1 (List.length l1) c1, .slice p2 (List.length l2) c2, .slice p3 (List.length l3) c3, .slice p4 (List.length l4) c4, .slice p5 (List.length l5) c5] : List Value)[k]? = some (.slice p n c) → [l1, l2, l3, l4, l5][k]? = some l → ∀ bb o, p = some ⟨bb, o, none⟩ → bb ≠ w.heap.size := fun k p n c l h1 h2 bb o e => by
        have h := ((HR.out.1.2.2.1.1 k _ l h1 h2).lt bb (by rw [e]; rfl)).1
        have := HSZ2.out
        omega
      have HNB := hide (And.intro (NBX 0 _ _ _ _ rfl rfl) (And.intro (NBX 1 _ _ _ _ rfl rfl) (And.intro (NBX 2 _ _ _ _ rfl rfl) (And.intro (NBX 3 _ _ _ _ rfl rfl) (NBX 4 _ _ _ _ rfl rfl)))))
      have K3 := hide HR.out.1.1
      have KN3 := hide HR.out.1.2.1
      have B3 := hide HR.out.1.2.2.2.1
      clear NBX HR
      have C2 := hide (rtext_any _ _ _ _ _ Q _ _ _ _ _ wr HV3.out HFQ.out)
      have k0 := tag_cell KN3.out 0 _ rfl
      have k1 := tag_cell KN3.out 1 _ rfl
      have k2 := tag_cell KN3.out 2 _ rfl
      have k3 := tag_cell KN3.out 3 _ rfl
      have k4 := tag_cell KN3.out 4 _ rfl
      have k5 := tag_cell KN3.out 5 _ rfl
      have k6 := tag_cell KN3.out 6 _ rfl
      have k7 := tag_cell KN3.out 7 _ rfl
      have k8 := tag_cell KN3.out 8 _ rfl
      go_wp2_with fail
      refine C2.out.mono ?_
      rintro e w4 ⟨rfl, hb4⟩
      have HV4 := hide (HV3.out.below hb4)
      have K4 := hide ((hb4.block _ (Array.getElem?_eq_some_iff.1 K3.out).1).trans K3.out)
      have B4 := hide (bel2 B3.out hb4)
      have KN4 := hide ((hb4.block _ (Array.getElem?_eq_some_iff.1 KN3.out).1).trans KN3.out)
      clear hb4 C2 HV3 K3 B3 KN3 k0 k1 k2 k3 k4 k5 k6 k7 k8
      cases hr : right Q with
      | false =>
        have HPN : Hid (readP (bl s) = none) := hide (by rw [HP.out, if_neg (by rw [hr]; intro h; cases h.1)])
        clear hr HP HFQ HV4 KN4 HNB
        go_upto_region 27 with fail
        go_step
        go_step
        rename_i kk
        go_simp
        refine kk _ _ ?_
        clear kk
        refine wpList_store_row rfl 24 _ _ rfl w.heap.size #[.int .i64 0, .slice none 0 0, .slice none 0 0, .slice none 0 0, .slice none 0 0, .slice none 0 0, .int .i64 0, .int .i64 0, .int .i64 0] rfl rfl 24 _ K4.out (by kernel_rfl) rfl (by simp [Value.oneCell']) ?_
        obtain ⟨w5, hw5⟩ : ∃ w5, w5 = w4.setRow w.heap.size #[.int .i64 0, .slice none 0 0, .slice none 0 0, .slice none 0 0, .slice none 0 0, .slice none 0 0, .int .i64 0, .int .i64 0, .int .i64 0] := ⟨_, rfl⟩
        have K5 : Hid (w5.heap[w.heap.size]? = some (.cells #[.int .i64 0, .slice none 0 0, .slice none 0 0, .slice none 0 0, .slice none 0 0, .slice none 0 0, .int .i64 0, .int .i64 0, .int .i64 0] 24 (0, 0))) := hide (by rw [hw5]; exact setRow_heap _ _ _ _ _ _ K4.out)
        have B5 : Hid (Below w.heap.size w w5) := hide (by rw [hw5]; exact below_row B4.out (Nat.le_refl _) _)
        rw [← hw5]
        clear hw5 K4 B4
        go_wp2_with fail
        refine bodyPost_ret (results_row_tmp rfl _ _ w.heap.size 24 #[.int .i64 0, .slice none 0 0, .slice none 0 0, .slice none 0 0, .slice none 0 0, .slice none 0 0, .int .i64 0, .int .i64 0, .int .i64 0] (0, 0) _ rfl K5.out Tryd.underlying24 rfl (by kernel_rfl)) rfl ?_
        have e0 : E0 = 2 := by rw [HE0.out, HPN.out]; rfl
        have e1 : P0 = Pol.zero := by rw [HP0.out, HPN.out]; rfl
        rw [e0, e1]
        exact ⟨⟨.slice none 0 0, .slice none 0 0, .slice none 0 0, .slice none 0 0, .slice none 0 0, [], [], [], [], [], rfl, strArg_nil _, strArg_nil _, strArg_nil _, strArg_nil _, strArg_nil _, rfl, rfl, rfl, rfl, rfl, HG.out.below B5.out⟩, B5.out⟩
      | true =>
        by_cases htx : text Q = bl s
        · have HPN : Hid (readP (bl s) = some Q) := hide (by rw [HP.out, if_pos ⟨hr, htx⟩])
          have hts : (⟨(text Q).toArray⟩ : ByteArray) = s := by rw [htx]
          have q1 : (s.toList == s.toList) = true := beq_same rfl
          have q2 : (s.toList != s.toList) = false := by simp
          rw [if_pos rfl, if_pos rfl, hts]
          clear hr HP HFQ htx hts
          go_upto_region 28 with fail
          go_step
          refine wpList_load_row rfl 24 _ rfl (w.heap.size + 1) rfl 24 #[.int .i64 Q.ep, .slice p1 (List.length l1) c1, .slice p2 (List.length l2) c2, .slice p3 (List.length l3) c3, .slice p4 (List.length l4) c4, .slice p5 (List.length l5) c5, .int .i64 Q.dp, .int .i64 Q.nd, .int .i64 Q.bt] (0, 0) _ KN4.out Tryd.underlying24 rfl (by kernel_rfl) ?_
          refine wpList_store_row rfl 24 _ _ rfl w.heap.size #[.int .i64 Q.ep, .slice p1 (List.length l1) c1, .slice p2 (List.length l2) c2, .slice p3 (List.length l3) c3, .slice p4 (List.length l4) c4, .slice p5 (List.length l5) c5, .int .i64 Q.dp, .int .i64 Q.nd, .int .i64 Q.bt] rfl rfl 24 _ K4.out (by kernel_rfl) rfl (by simp [Value.oneCell']) ?_
          obtain ⟨w5, hw5⟩ : ∃ w5, w5 = w4.setRow w.heap.size #[.int .i64 Q.ep, .slice p1 (List.length l1) c1, .slice p2 (List.length l2) c2, .slice p3 (List.length l3) c3, .slice p4 (List.length l4) c4, .slice p5 (List.length l5) c5, .int .i64 Q.dp, .int .i64 Q.nd, .int .i64 Q.bt] := ⟨_, rfl⟩
          have K5 : Hid (w5.heap[w.heap.size]? = some (.cells #[.int .i64 Q.ep, .slice p1 (List.length l1) c1, .slice p2 (List.length l2) c2, .slice p3 (List.length l3) c3, .slice p4 (List.length l4) c4, .slice p5 (List.length l5) c5, .int .i64 Q.dp, .int .i64 Q.nd, .int .i64 Q.bt] 24 (0, 0))) := hide (by rw [hw5]; exact setRow_heap _ _ _ _ _ _ K4.out)
          have B5 : Hid (Below w.heap.size w w5) := hide (by rw [hw5]; exact below_row B4.out (Nat.le_refl _) _)
          have HV5 : Hid (PolV w5 (.slice p1 (List.length l1) c1) (.slice p2 (List.length l2) c2) (.slice p3 (List.length l3) c3) (.slice p4 (List.length l4) c4) (.slice p5 (List.length l5) c5) Q l1 l2 l3 l4 l5) := hide (by
            have h := HV4.out
            have nb := HNB.out
            rw [hw5]
            exact ⟨strArg_row_off h.s1 nb.1 _, strArg_row_off h.s2 nb.2.1 _, strArg_row_off h.s3 nb.2.2.1 _, strArg_row_off h.s4 nb.2.2.2.1 _, strArg_row_off h.s5 nb.2.2.2.2 _, h.e1, h.e2, h.e3, h.e4, h.e5, HG.out.below (by rw [← hw5]; exact B5.out)⟩)
          rw [← hw5]
          clear hw5 K4 B4 HV4 KN4 HNB
          go_wp2_with fail
          refine bodyPost_ret (results_row_tmp rfl _ _ w.heap.size 24 #[.int .i64 Q.ep, .slice p1 (List.length l1) c1, .slice p2 (List.length l2) c2, .slice p3 (List.length l3) c3, .slice p4 (List.length l4) c4, .slice p5 (List.length l5) c5, .int .i64 Q.dp, .int .i64 Q.nd, .int .i64 Q.bt] (0, 0) _ rfl K5.out Tryd.underlying24 rfl (by kernel_rfl)) rfl ?_
          have e0 : E0 = 0 := by rw [HE0.out, HPN.out]; rfl
          have e1 : P0 = Q := by rw [HP0.out, HPN.out]; rfl
          rw [e0, e1]
          exact ⟨⟨_, _, _, _, _, l1, l2, l3, l4, l5, rfl, HV5.out⟩, B5.out⟩
        · have HPN : Hid (readP (bl s) = none) := hide (by rw [HP.out, if_neg (fun h => htx h.2)])
          obtain ⟨TX, hTX⟩ : ∃ TX : ByteArray, TX = ⟨(text Q).toArray⟩ := ⟨_, rfl⟩
          have q1 : (TX.toList == s.toList) = false := beq_ne (by rw [hTX]; exact htx)
          have q2 : (TX.toList != s.toList) = true := by rw [bne, q1]; rfl
          rw [if_pos rfl, if_pos rfl, ← hTX]
          clear hr HP HFQ htx hTX HV4 KN4 HNB
          go_upto_region 27 with fail
          go_step
          go_step
          rename_i kk
          go_simp
          refine kk _ _ ?_
          clear kk
          refine wpList_store_row rfl 24 _ _ rfl w.heap.size #[.int .i64 0, .slice none 0 0, .slice none 0 0, .slice none 0 0, .slice none 0 0, .slice none 0 0, .int .i64 0, .int .i64 0, .int .i64 0] rfl rfl 24 _ K4.out (by kernel_rfl) rfl (by simp [Value.oneCell']) ?_
          obtain ⟨w5, hw5⟩ : ∃ w5, w5 = w4.setRow w.heap.size #[.int .i64 0, .slice none 0 0, .slice none 0 0, .slice none 0 0, .slice none 0 0, .slice none 0 0, .int .i64 0, .int .i64 0, .int .i64 0] := ⟨_, rfl⟩
          have K5 : Hid (w5.heap[w.heap.size]? = some (.cells #[.int .i64 0, .slice none 0 0, .slice none 0 0, .slice none 0 0, .slice none 0 0, .slice none 0 0, .int .i64 0, .int .i64 0, .int .i64 0] 24 (0, 0))) := hide (by rw [hw5]; exact setRow_heap _ _ _ _ _ _ K4.out)
          have B5 : Hid (Below w.heap.size w w5) := hide (by rw [hw5]; exact below_row B4.out (Nat.le_refl _) _)
          rw [← hw5]
          clear hw5 K4 B4
          go_wp2_with fail
          refine bodyPost_ret (results_row_tmp rfl _ _ w.heap.size 24 #[.int .i64 0, .slice none 0 0, .slice none 0 0, .slice none 0 0, .slice none 0 0, .slice none 0 0, .int .i64 0, .int .i64 0, .int .i64 0] (0, 0) _ rfl K5.out Tryd.underlying24 rfl (by kernel_rfl)) rfl ?_
          have e0 : E0 = 2 := by rw [HE0.out, HPN.out]; rfl
          have e1 : P0 = Pol.zero := by rw [HP0.out, HPN.out]; rfl
          rw [e0, e1]
          exact ⟨⟨.slice none 0 0, .slice none 0 0, .slice none 0 0, .slice none 0 0, .slice none 0 0, [], [], [], [], [], rfl, strArg_nil _, strArg_nil _, strArg_nil _, strArg_nil _, strArg_nil _, rfl, rfl, rfl, rfl, rfl, HG.out.below B5.out⟩, B5.out⟩
end Go.Proofs.YteglmpaapcgfbaaDoor
