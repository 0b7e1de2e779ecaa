/-
  The document's builder: close, last.
-/
import Derived.Test.YtkdppcpkigpmdaaR21
namespace Go.Proofs.Ytkdppcpkigpmdaa
open Go.RowKit
open Utf1

theorem innerF_le (ns : List (List UInt8)) : ∀ L : List (List UInt8), innerF ns L ≤ L.length
  | [] => Nat.le_refl _
  | a :: rest => by
    unfold innerF
    split
    · simp
    · have := innerF_le ns rest
      simp only [List.length_cons]
      omega
theorem FB.cap {w : World} {base R : Nat} {fl : List Fl} {op : List Nat} {bad : Bool} {lv : Value} {pp : Option Addr} {pc : Nat} (h : FB w base R fl op bad) (hR : RB w R lv (.slice pp op.length pc) bad) : op.length ≤ pc := by
  obtain ⟨_, _, lv', ov', h3, _, h5⟩ := h
  have e : lv' = lv ∧ ov' = .slice pp op.length pc := by
    unfold RB at h3 hR
    rw [h3] at hR
    simpa using hR
  obtain ⟨rfl, rfl⟩ := e
  obtain ⟨_, ⟨e1, e2⟩ | ⟨g', cap', cur, e1, _, _, h4, _⟩⟩ := h5
  · injection e1 with _ e3 _
    omega
  · cases e1
    exact h4

set_option maxRecDepth 100000 in
set_option maxHeartbeats 8000000 in
theorem close_st (w : World) (base R : Nat) (fl : List Fl) (op : List Nat) (bad : Bool) (name : ByteArray) (h : FB w base R fl op bad) (hin : ∀ k ∈ op, k < fl.length) (hl : op.length ≤ 100000) (hlf : fl.length ≤ 100000) :
    Calls Try.prog 40 #[.pointer (some ⟨R, 0, none⟩), .string name] w fun e w' => e = .returned (.bool (decide (0 < innerF [bl name] (nmsF fl op)))) ∧ FB w' base R fl (if 0 < innerF [bl name] (nmsF fl op) then op.take (innerF [bl name] (nmsF fl op) - 1) else op) bad ∧ Bel base w w' := by
  have HI : Hid (∀ ty, Calls Try.prog 47 #[.pointer (some ⟨R, 0, none⟩), .slice (some ⟨w.heap.size, 0, none⟩) 1 1] (w.alloc (.cells #[.string name] ty)) fun e w' => e = .returned (.int .i64 (innerF [bl name] (nmsF fl op) : Int)) ∧ ∃ n, w' = (w.alloc (.cells #[.string name] ty)).drewN n) := hide (by
    intro ty
    refine inner_st _ base R fl op bad [name] w.heap.size 1 (h.under ((Below.refl _ _).alloc (Nat.le_refl _) _)) hin hl hlf (by show 1 ≤ 100000; omega) ?_
    intro i x hx
    rw [new_cell]
    match i, hx with
    | 0, hx =>
      have : name = x := by simpa using hx
      rw [← this]
      rfl)
  have hnl : (nmsF fl op).length = op.length := by unfold nmsF; simp
  have hkl := innerF_le [bl name] (nmsF fl op)
  rw [hnl] at hkl
  have HU : Hid (∀ ty n, FB ((w.alloc (.cells #[.string name] ty)).drewN n) base R fl op bad ∧ Bel base w ((w.alloc (.cells #[.string name] ty)).drewN n)) := hide (by
    intro ty n
    have hb : Below w.heap.size w ((w.alloc (.cells #[.string name] ty)).drewN n) := bel2 ((Below.refl _ _).alloc (Nat.le_refl _) _) (bel_drewN _ n)
    exact ⟨h.under hb, Bel.of hb h.2.1⟩)
  obtain ⟨K, hK⟩ : ∃ K, K = innerF [bl name] (nmsF fl op) := ⟨_, rfl⟩
  rw [← hK] at HI hkl ⊢
  have hbR := h.1
  clear h hin hnl hK
  by_cases hpos : 0 < K
  · rw [decide_eq_true hpos, if_pos hpos]
    have hz : ((K : Int) == 0) = false := beq_eq_false_iff_ne.2 (by omega)
    go_enter Try.func40, Try.ntmps40
    go_wp2_with fail
    refine (HI.out _).mono ?_
    rintro e w1 ⟨rfl, n, hw1⟩
    obtain ⟨hf, hb⟩ := HU.out _ n
    rw [← hw1] at hf hb
    obtain ⟨lp, lc, pp, pc, hR, -, ho⟩ := hf.reads
    have hcap := hf.cap hR
    have c1 : w1.cell? ⟨R, 1, none⟩ = some (.slice pp op.length pc) := tag_cell hR 1 _ rfl
    have f1 := tag_free hR 1
    obtain ⟨g, hg, -⟩ := ho 0 _ (List.getElem?_eq_getElem (by omega))
    have HE := hide (And.intro (hf.shut hR (m := K - 1) (by omega) (by rw [hg]; simp)) (hb.trans (Bel.set hR (by decide) hbR 1 (.slice pp (K - 1) pc))))
    subst hg
    obtain ⟨k, rfl⟩ : ∃ k, K = k + 1 := ⟨K - 1, by omega⟩
    clear hf hb hR ho hw1 HI HU
    go_wp2_with fail
    go_ret
    exact ⟨rfl, HE.out⟩
  · rw [decide_eq_false hpos, if_neg hpos]
    have hz : K = 0 := by omega
    subst hz
    go_enter Try.func40, Try.ntmps40
    go_wp2_with fail
    refine (HI.out _).mono ?_
    rintro e w1 ⟨rfl, n, hw1⟩
    obtain ⟨hf, hb⟩ := HU.out _ n
    rw [← hw1] at hf hb
    have HE := hide (And.intro hf hb)
    clear HI HU hw1 hf hb
    go_wp2_with fail
    go_ret
    exact ⟨rfl, HE.out⟩

/-- The place of what stands last within a node, of the first so many. -/
def lastF (fl : List Fl) (u : Int) : Nat → Int
  | 0 => -1
  | j + 1 => if (fl[j]?.map Fl.up) = some u then (j : Int) else lastF fl u j

set_option maxRecDepth 100000 in
set_option maxHeartbeats 8000000 in
theorem last_st (w : World) (base R : Nat) (fl : List Fl) (op : List Nat) (bad : Bool) (h : FB w base R fl op bad) (hl : op.length ≤ 100000) (hlf : fl.length ≤ 100000) :
    Calls Try.prog 37 #[.pointer (some ⟨R, 0, none⟩)] w fun e w' => e = .returned (.int .i64 (lastF fl (hereF op) fl.length)) ∧ ∃ n, w' = w.drewN n := by
  obtain ⟨lp, lc, pp, pc, hR, hf, -⟩ := h.reads
  have c0 : w.cell? ⟨R, 0, none⟩ = some (.slice lp fl.length lc) := tag_cell hR 0 _ rfl
  have HF := hide hf
  have HH := hide (fun n => here_st (w.drewN n) base R fl op bad (h.under (bel_drewN _ n)) hl)
  obtain ⟨M, hM⟩ : ∃ M, M = fl.length := ⟨_, rfl⟩
  obtain ⟨u, hu⟩ : ∃ u, u = hereF op := ⟨_, rfl⟩
  rw [← hu] at HH ⊢
  obtain ⟨Z, hZ⟩ : ∃ Z, Z = lastF fl u fl.length := ⟨_, rfl⟩
  rw [← hZ]
  rw [← hM] at c0 hlf
  have HM := hide hM
  have HZ := hide hZ
  clear h hR hf hM hZ hu
  go_enter Try.func37, Try.ntmps37
  go_wp2_with fail
  go_loopg [3] M (fun k v3 wr => v3 = .int .i64 ((k : Int) - 1) ∧ k ≤ M ∧ Hid (∃ n, wr = w.drewN n) ∧ Hid (Z = lastF fl u k))
  case atStart => exact ⟨rfl, Nat.le_refl _, hide ⟨0, rfl⟩, hide (by rw [HM.out]; exact HZ.out)⟩
  case round =>
    obtain ⟨rfl, hgk, HW, HZ2⟩ := hrel
    match gk, hgk, HZ2 with
    | 0, hgk, HZ2 =>
      have hz : Z = -1 := HZ2.out
      subst hz
      clear HZ2
      go_wp2_with fail
      try rw [Exit.noGoto_ret]
      go_ret
      exact ⟨rfl, HW.out⟩
    | j + 1, hgk, HZ2 =>
      have hj : j < fl.length := by rw [← HM.out]; omega
      have hgf : fl[j]? = some fl[j] := List.getElem?_eq_getElem hj
      generalize fl[j] = f at hgf
      obtain ⟨g2, hp2, -, -, -, -, x4⟩ := HF.out j f hgf
      subst hp2
      have hz2 : Z = if f.up = u then (j : Int) else lastF fl u j := by
        have := HZ2.out
        unfold lastF at this
        rw [hgf] at this
        simpa using this
      obtain ⟨n0, hn0⟩ := HW.out
      subst hn0
      have c0 : (w.drewN n0).cell? ⟨R, 0, none⟩ = some (.slice (some ⟨g2, 0, none⟩) M lc) := c0
      have x4 : (w.drewN n0).cell? ⟨g2, j * 5 + 4, none⟩ = some (.int .i64 f.up) := x4
      have HXW : Hid (∀ (n : Nat), Calls Try.prog 46 #[.pointer (some ⟨R, 0, none⟩)] ((w.drewN n0).drewN n) fun e w' => e = .returned (.int .i64 u) ∧ ∃ m, w' = ((w.drewN n0).drewN n).drewN m) := hide (by
        intro n
        have := HH.out (n0 + n)
        rw [World.drewN_drewN]
        exact this)
      obtain ⟨V, hV⟩ : ∃ V, V = w.drewN n0 := ⟨_, rfl⟩
      rw [← hV] at c0 x4 HXW ⊢
      have HV := hide hV
      obtain ⟨fu, hfu⟩ : ∃ fu, fu = f.up := ⟨_, rfl⟩
      rw [← hfu] at x4 hz2
      by_cases he : fu = u
      · rw [if_pos he] at hz2
        subst he
        subst hz2
        clear HZ2 hgf hV HF HH hfu HW
        go_wp2_with fail
        go_quiet ((go_at_call 46; exact Calls.quiet_of (HXW.out _)))
        go_wp2_with fail
        try rw [Exit.noGoto_ret]
        go_ret
        have ej : (((j + 1 : Nat) : Int) - 1) = (j : Int) := by omega
        refine ⟨?_, ?_⟩
        · show Ending.returned (Value.int IntKind.i64 (((j + 1 : Nat) : Int) - 1)) = _
          rw [ej]
        rw [HV.out]
        exact ⟨_, World.drewN_drewN ..⟩
      · rw [if_neg he] at hz2
        have hef : (fu == u) = false := beq_eq_false_iff_ne.2 he
        have HZ3 := hide hz2
        clear HZ2 hgf hV HF hfu hz2 HW
        go_wp2_with fail
        go_quiet ((go_at_call 46; exact Calls.quiet_of (HXW.out _)))
        go_wp2_with fail
        go_roundg j
        case measure => omega
        case rel => exact ⟨by first | rfl | simp, by omega, hide (by rw [HV.out]; exact ⟨_, World.drewN_drewN ..⟩), HZ3⟩
end Go.Proofs.Ytkdppcpkigpmdaa
