/-
  What refs.Resolve answers at every text.
-/
import Derived.Test.YtholfdfjapgfbaaGreatDoorP5
import Derived.Deep.LoopGhost
import Derived.WalkMore
namespace Go.Proofs.YtholfdfjapgfbaaGreatDoor
open Go.RowKit
open Utf1

theorem refAt_here (t : List UInt8) (i : Nat) (hi : i < t.length) (h8 : i ≤ 8) (hno : ∀ j, j < i → t[j]? ≠ some 59) (h : t[i]? = some 59) : refAt t = (sf (t.take i)).map fun r => (r, i + 1) := by
  have e : t.findIdx (· == 59) = i := by
    rw [List.findIdx_eq hi]
    refine ⟨?_, fun j hj => ?_⟩
    · rw [List.getElem?_eq_getElem hi] at h
      simpa using h
    · have := hno j hj
      rw [List.getElem?_eq_getElem (by omega)] at this
      simpa using this
  unfold refAt
  rw [e, if_pos ⟨hi, h8⟩]
theorem refAt_not (t : List UInt8) (i : Nat) (h : t.length ≤ i ∨ 9 ≤ i) (hno : ∀ j, j < i → t[j]? ≠ some 59) : refAt t = none := by
  unfold refAt
  rw [if_neg]
  rintro ⟨h1, h2⟩
  have h3 := List.findIdx_getElem (w := h1)
  have hlt : t.findIdx (· == 59) < i := by omega
  refine hno _ hlt ?_
  rw [List.getElem?_eq_getElem h1]
  simpa using h3

theorem extract_bl (s : ByteArray) (a b : Nat) : bl (s.extract a b) = ((bl s).drop a).take (b - a) := Lib.extract_data s a b
theorem drop_cons (s : ByteArray) (k : Nat) (h : k < s.size) : (bl s).drop k = (bl s)[k]'(by rw [bl_len]; exact h) :: (bl s).drop (k + 1) := List.drop_eq_getElem_cons _
theorem atN_drop (s : ByteArray) (k : Nat) (h : k < s.size) : atN ((bl s).drop k) 0 = ((bl s)[k]'(by rw [bl_len]; exact h)).toNat := by
  rw [drop_cons s k h]
  rfl
theorem getE_drop (s : ByteArray) (k j : Nat) (h : k + j < s.size) : ((bl s).drop k)[j]? = some ((bl s)[k + j]'(by rw [bl_len]; exact h)) := by
  rw [List.getElem?_drop, List.getElem?_eq_getElem]
theorem u8_eq {c : UInt8} {n : Nat} (hn : n < 256) : c = UInt8.ofNat n ↔ c.toNat = n := by
  constructor
  · rintro rfl
    exact toNat_ofNat hn
  · intro h
    exact (ofNat_of h.symm).symm

/-- A Builder is as it was, where only new blocks were laid. -/
theorem builder_below {T e : TypeId} {B b : Nat} {bs : List Value} {W W' : World} (h : Lib.IsBuilderF T e B b bs W) (hb : Below W.heap.size W W') : Lib.IsBuilderF T e B b bs W' := by
  have one : ∀ p, Lib.BuilderAtF T e B b p bs W → Lib.BuilderAtF T e B b p bs W' := by
    intro p h
    have hlt := h.lt
    obtain ⟨hB, v, hv, hown, hne⟩ := h
    exact ⟨hB, v, (hb.block b hlt).trans hv, hown.kept (row := none) ⟨hb.os, hb.tape, hb.output, hb.size, fun k hk _ => hb.block k hk⟩ (Classical.em _), hne⟩
  exact h.elim (fun x => .inl (one _ x)) (fun x => .inr (one _ x))

set_option maxHeartbeats 4000000 in
set_option maxRecDepth 100000 in
theorem resolve_any (s : ByteArray) (hs : s.size ≤ 1099511627776) (w : World) (hg : Glob w) :
    Calls Tryz.prog 27 #[.string s] w fun e w' => e = .returned (.string ⟨(res (bl s)).toArray⟩) ∧ Below w.heap.size w w' := by
  go_enter Tryz.func27, Tryz.ntmps27
  go_wp2
  go_step3
  go_wp2
  go_step3
  go_wp2
  go_loopg [4] s.size (fun g v wr => ∃ (p : Nat) (acc : List UInt8), p + g = s.size ∧ v = .int .i64 (p : Int) ∧ acc.length ≤ p ∧ Lib.IsBuilderF 51 5 w.heap.size w.heap.size (Lib.byteCells acc) wr ∧ Below w.heap.size w wr ∧ Hid (acc ++ res ((bl s).drop p) = res (bl s)))
  case atStart =>
    exact ⟨0, [], by omega, rfl, by simp, Lib.IsBuilderF.of (Lib.fresh_isBuilder 51 5 w), (Below.refl _ w).alloc (Nat.le_refl _) _, hide rfl⟩
  case round =>
    obtain ⟨p, acc, hpg, rfl, hal, hI, hbw, HA⟩ := hrel
    obtain ⟨og, rfl⟩ : ∃ q, q = gk := ⟨gk, rfl⟩
    by_cases hlt : p < s.size
    · have i0 : ∀ w, (Instr.index 9 (.string s) (.int .i64 (p : Int))).run Tryz.prog w = .ok (.int .u8 (atN ((bl s).drop p) 0 : Nat)) w := idx_run s p 0 hlt
      rw [atN_drop s p hlt] at i0
      have hdc := drop_cons s p hlt
      generalize (bl s)[p]'(by rw [bl_len]; exact hlt) = c at i0 hdc
      obtain ⟨z, hz⟩ : ∃ z : Int, z = (c.toNat : Int) := ⟨_, rfl⟩
      rw [← hz] at i0
      have HZ := hide hz
      have z0 : 0 ≤ z := by omega
      have z1 : z ≤ 255 := by have := c.toNat_lt; omega
      by_cases h38 : c = 38
      · have hz38 : z = 38 := by rw [hz, h38]; rfl
        subst hz38
        subst h38
        clear hz HZ z0 z1
        -- what stands behind, where no reference begins
        have HN0 : refAt ((bl s).drop (p + 1)) = none → Hid ((acc ++ [38]) ++ res ((bl s).drop (p + 1)) = res (bl s)) := fun h => hide (by rw [← HA.out, hdc, res_none _ h]; simp)
        have HN1 : ∀ r k, refAt ((bl s).drop (p + 1)) = some (r, k) → Hid ((acc ++ er r) ++ res ((bl s).drop (p + 1 + k)) = res (bl s)) := fun r k h => hide (by rw [← HA.out, hdc, res_some _ r k h, List.drop_drop]; simp)
        have HNS := hide (And.intro HN0 HN1)
        clear HN0 HN1 hdc HA
        go_wp2
        go_loopg [4, 5] 9 (fun g2 v4 v wy => ∃ (i e : Nat), v4 = .int .i64 (p : Int) ∧ i + g2 = 9 ∧ Hid (e = p + 1 + i) ∧ v = .int .i64 (e : Int) ∧ e ≤ s.size ∧ wy = wr ∧ Hid (∀ j, j < i → ((bl s).drop (p + 1))[j]? ≠ some 59))
        case atStart => exact ⟨0, p + 1, rfl, by omega, hide rfl, by first | rfl | simp, by omega, rfl, hide (by intro j hj; omega)⟩
        case round =>
          obtain ⟨i, e, rfl, hig, HE, rfl, hes, rfl, HJ⟩ := hrel
          have hep : p + 1 ≤ e := by have := HE.out; omega
          have hi9 : i ≤ 9 := by omega
          -- no reference begins: the byte itself
          have leave : ∀ (wx : World), Below wr.heap.size wr wx → Hid (refAt ((bl s).drop (p + 1)) = none) → Calls Tryz.prog 55 #[.pointer (some ⟨w.heap.size, 0, none⟩), .int .u8 38] wx fun e w' => e = .returned .nilIface ∧ Lib.IsBuilderF 51 5 w.heap.size w.heap.size (Lib.byteCells (acc ++ [38])) w' ∧ Below w.heap.size w w' ∧ Hid ((acc ++ [38]) ++ res ((bl s).drop (p + 1)) = res (bl s)) := by
            intro wx hbx HR
            refine (Tryz.Builder_WriteByte_k w.heap.size w.heap.size _ 38 _ (builder_below hI hbx) (by rw [Lib.byteCells_length]; omega) (Nat.le_trans hbw.size hbx.size)).mono ?_
            rintro e W1 ⟨rfl, h1, b1, _⟩
            refine ⟨rfl, ?_, (hbw.trans (hbx.mono hbw.size)).trans b1, HNS.out.1 HR.out⟩
            rw [Lib.byteCells_append]
            exact Or.inr h1
          by_cases hin : e < s.size ∧ i ≤ 8
          · obtain ⟨hel, hi8⟩ := hin
            have he9 : e ≤ p + 9 := by have := HE.out; omega
            have ie : ∀ w, (Instr.index 9 (.string s) (.int .i64 (e : Int))).run Tryz.prog w = .ok (.int .u8 (atN ((bl s).drop e) 0 : Nat)) w := idx_run s e 0 hel
            rw [atN_drop s e hel] at ie
            have hge := getE_drop s (p + 1) i (by have := HE.out; omega)
            have hge : ((bl s).drop (p + 1))[i]? = some ((bl s)[e]'(by rw [bl_len]; exact hel)) := by rw [hge]; simp only [HE.out]
            generalize (bl s)[e]'(by rw [bl_len]; exact hel) = c2 at ie hge
            obtain ⟨y, hy⟩ : ∃ y : Int, y = (c2.toNat : Int) := ⟨_, rfl⟩
            rw [← hy] at ie
            have y0 : 0 ≤ y := by omega
            have y1 : y ≤ 255 := by have := c2.toNat_lt; omega
            by_cases h59 : c2 = 59
            · have hy59 : y = 59 := by rw [hy, h59]; rfl
              subst hy59
              subst h59
              have hsz : (s.extract (p + 1) e).size ≤ 8 := by have := HE.out; simp; omega
              have hsf := fun w hg => standsFor_any (s.extract (p + 1) e) hsz w hg
              have hbe : bl (s.extract (p + 1) e) = ((bl s).drop (p + 1)).take i := by rw [extract_bl]; congr 1; have := HE.out; omega
              have href := refAt_here ((bl s).drop (p + 1)) i (by have := HE.out; rw [List.length_drop, bl_len]; omega) hi8 HJ.out hge
              rw [hbe] at hsf
              clear hy y0 y1 hge HJ hbe hsz
              cases hsv : sf (((bl s).drop (p + 1)).take i) with
              | some r =>
                rw [hsv] at hsf href
                have HR := HNS.out.2 r (i + 1) href
                have hsc := (sf_facts hsv)
                have hi2 : 2 ≤ i := by have := hsc.1; rw [List.length_take] at this; omega
                have her := er_len r
                unfold optS at hsf
                have hsf : ∀ w, Glob w → Calls Tryz.prog 53 #[.string (s.extract (p + 1) e)] w fun e w' => e = .returned (.tuple #[.string ⟨(er r).toArray⟩, .bool true]) ∧ Below w.heap.size w w' := hsf
                have hA : (⟨(er r).toArray⟩ : ByteArray).size = (er r).length := size_mk _
                have hAc : Lib.strCells (⟨(er r).toArray⟩ : ByteArray) = Lib.byteCells (er r) := rfl
                generalize (⟨(er r).toArray⟩ : ByteArray) = A at hsf hA hAc
                clear href hsc hsv HNS leave
                go_wp2_with fail
                refine (hsf _ (hg.below hbw)).mono ?_
                rintro e1 w1 ⟨rfl, hb1⟩
                go_wp2_with fail
                refine (Tryz.Builder_WriteString_k w.heap.size w.heap.size _ A _ (builder_below hI hb1) (by rw [Lib.byteCells_length]; omega) (Nat.le_trans hbw.size hb1.size)).mono ?_
                rintro e1 w2 ⟨rfl, h1, b1, _⟩
                go_wp2_with fail
                have hE := HE.out
                go_roundg (og - (i + 2))
                case measure => omega
                case rel =>
                  refine ⟨e + 1, acc ++ er r, by omega, by first | rfl | simp, by simp; omega, ?_, (hbw.trans (hb1.mono hbw.size)).trans b1, hide ?_⟩
                  · rw [Lib.byteCells_append, ← hAc]
                    exact Or.inr h1
                  · rw [← HR.out, show e + 1 = p + 1 + (i + 1) by omega]
              | none =>
                rw [hsv] at hsf href
                unfold optS at hsf
                have hsf : ∀ w, Glob w → Calls Tryz.prog 53 #[.string (s.extract (p + 1) e)] w fun e w' => e = .returned (.tuple #[.string ⟨#[]⟩, .bool false]) ∧ Below w.heap.size w w' := hsf
                have HR := hide href
                have HR : Hid (refAt ((bl s).drop (p + 1)) = none) := HR
                clear href hsv HNS
                go_wp2_with fail
                refine (hsf _ (hg.below hbw)).mono ?_
                rintro e1 w1 ⟨rfl, hb1⟩
                go_wp2_with fail
                refine (leave _ hb1 HR).mono ?_
                rintro e1 w2 ⟨rfl, h1, b1, HN⟩
                go_wp2_with fail
                go_roundg (og - 1)
                case measure => omega
                case rel => exact ⟨p + 1, acc ++ [38], by omega, by first | rfl | simp, by simp; omega, h1, b1, HN⟩
            · have hb59 : (y != 59) = true := bne_iff_ne.2 (by
                intro e
                apply h59
                have : c2 = UInt8.ofNat 59 := (u8_eq (by decide)).2 (by omega)
                exact this)
              have HJ2 : Hid (∀ j, j < i + 1 → ((bl s).drop (p + 1))[j]? ≠ some 59) := hide (by
                intro j hj
                by_cases hji : j = i
                · subst hji
                  rw [hge]
                  intro e
                  apply h59
                  simpa using e
                · exact HJ.out j (by omega))
              clear hy hge HJ HNS leave
              go_wp2
              have hE := HE.out
              go_roundg (gk - 1)
              case measure => omega
              case rel => exact ⟨i + 1, e + 1, rfl, by omega, hide (by omega), by first | rfl | simp, by omega, rfl, HJ2⟩
          · have HR : Hid (refAt ((bl s).drop (p + 1)) = none) := hide (refAt_not _ i (by have := HE.out; rw [List.length_drop, bl_len]; omega) HJ.out)
            by_cases hel : e < s.size
            · have hi10 : e = p + 10 := by have := HE.out; omega
              have hd9 : ¬ (e : Int) - (p : Int) ≤ 9 := by omega
              clear HJ HNS hin
              go_wp2_with fail
              refine (leave _ (Below.refl _ _) HR).mono ?_
              rintro e1 w2 ⟨rfl, h1, b1, HN⟩
              go_wp2_with fail
              go_roundg (og - 1)
              case measure => omega
              case rel => exact ⟨p + 1, acc ++ [38], by omega, by first | rfl | simp, by simp; omega, h1, b1, HN⟩
            · clear HJ HNS hin
              go_wp2_with fail
              refine (leave _ (Below.refl _ _) HR).mono ?_
              rintro e1 w2 ⟨rfl, h1, b1, HN⟩
              go_wp2_with fail
              go_roundg (og - 1)
              case measure => omega
              case rel => exact ⟨p + 1, acc ++ [38], by omega, by first | rfl | simp, by simp; omega, h1, b1, HN⟩
      · have hb38 : (z == 38) = false := beq_eq_false_iff_ne.2 (by
          intro e
          apply h38
          have : c = UInt8.ofNat 38 := (u8_eq (by decide)).2 (by omega)
          exact this)
        have HN : Hid ((acc ++ [c]) ++ res ((bl s).drop (p + 1)) = res (bl s)) := hide (by rw [← HA.out, hdc, res_plain c _ h38]; simp)
        clear HA hdc hz
        go_wp2_with (go_at_call 55; refine (Tryz.Builder_WriteByte_k w.heap.size w.heap.size _ z _ hI (by rw [Lib.byteCells_length]; omega) hbw.size).mono ?_)
        rintro e W1 ⟨rfl, h1, b1, _⟩
        go_wp2
        go_roundg (og - 1)
        case measure => omega
        case rel =>
          refine ⟨p + 1, acc ++ [c], by omega, by first | rfl | simp, by simp; omega, ?_, hbw.trans b1, HN⟩
          rw [Lib.byteCells_append]
          rw [HZ.out] at h1
          exact Or.inr h1
    · go_wp2_with (go_at_call 29; refine (Tryz.Builder_String_any_k w.heap.size w.heap.size acc _ hI hbw.size).mono ?_)
      rintro e W1 ⟨rfl, _, b1, _⟩
      go_wp2
      try rw [Exit.noGoto_ret]
      go_ret
      have hacc := HA.out
      rw [drop_all s p hlt, res_nil, List.append_nil] at hacc
      rw [hacc]
      exact ⟨rfl, hbw.trans b1⟩
end Go.Proofs.YtholfdfjapgfbaaGreatDoor
