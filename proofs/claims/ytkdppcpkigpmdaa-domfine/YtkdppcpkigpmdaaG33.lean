/-
  The law's fine, at a tree that is fine.
-/
import Derived.Test.YtkdppcpkigpmdaaH7
namespace Go.Proofs.Ytkdppcpkigpmdaa
open Go.RowKit
open Utf1

theorem fine_at {bs vs : List (List UInt8)} : ∀ (ns : List Nd) (p li pr : Bool), FineL bs vs ns p li pr → ∀ (j : Nat) (nd : Nd), ns[j]? = some nd → (j = 0 → FineN bs vs nd p li pr) ∧ ∀ i y, j = i + 1 → ns[i]? = some y → FineN bs vs nd p li (decide (y.name = []))
  | [], _, _, _, _, j, nd, h => by simp at h
  | x :: r, p, li, pr, hf, 0, nd, h => by
    have : x = nd := by simpa using h
    subst this
    rw [FineL] at hf
    exact ⟨fun _ => hf.1, fun i y e => by cases e⟩
  | x :: r, p, li, pr, hf, j + 1, nd, h => by
    rw [FineL] at hf
    have h' : r[j]? = some nd := by simpa using h
    have ih := fine_at r p li _ hf.2 j nd h'
    refine ⟨(fun e => by cases e), ?_⟩
    intro i y e hy
    have e : i = j := by omega
    subst e
    cases i with
    | zero =>
      have : x = y := by simpa using hy
      subst this
      exact ih.1 rfl
    | succ i => exact ih.2 i y rfl (by simpa using hy)

set_option maxRecDepth 100000 in
set_option maxHeartbeats 16000000 in
theorem fine_st (w0 : World) (base : Nat) : ∀ (M : Nat) (w : World) (v : Value) (ns : List Nd) (fp : List Nat) (p li : Bool), cntL ns ≤ M → M ≤ 1000000000 → FineL blocks voids ns p li false → KAt w0 base v ns fp → Below w0.heap.size w0 w →
    Calls Try.prog 19 #[v, .bool p, .bool li] w fun e w' => e = .returned (.bool true) ∧ Below w.heap.size w w' := by
  intro M
  induction M using Nat.strongRecOn with
  | _ M ih =>
  intro w v ns fp p li hM hM2 hfine hk hb
  obtain ⟨sp, c, rfl, hnode⟩ := kat_node hk
  have HNODE := hide hnode
  have HBW := hide hb
  have HIH := hide ih
  have HF := hide (fine_at ns p li false hfine)
  have HCN : Hid (∀ (j : Nat) (nd : Nd), ns[j]? = some nd → cntL nd.kids < cntL ns) := hide (by
    intro j nd hj
    obtain ⟨a, b, e⟩ := List.append_of_mem (List.mem_of_getElem? hj)
    rw [e, cntL_app, cntL, cntN_kids]
    omega)
  have hlc := len_cnt ns
  obtain ⟨N, hN⟩ : ∃ N, N = ns.length := ⟨_, rfl⟩
  rw [← hN] at hlc ⊢
  have HN := hide hN
  have hN9 : N ≤ 1000000000 := by omega
  have HM := hide hM
  clear hnode hb hk ih hN hfine hlc hM
  go_enter Try.func19, Try.ntmps19
  go_wp2_with fail
  go_loopg [7] N (fun k v7 wr => ∃ j : Nat, j + k = N ∧ v7 = .int .i64 (j : Int) ∧ Hid (Below w.heap.size w wr))
  case atStart => exact ⟨0, by omega, rfl, hide (Below.refl _ _)⟩
  case round =>
    obtain ⟨j, hjk, rfl, HB⟩ := hrel
    by_cases hlt : j < N
    · have hd : decide ((j : Int) < (N : Int)) = true := decide_eq_true (by omega)
      have hlt' : j < ns.length := by rw [← HN.out]; exact hlt
      have hge : ns[j]? = some ns[j] := List.getElem?_eq_getElem hlt'
      generalize ns[j] = nd at hge
      obtain ⟨g, ap, am, ac, kp, km, kc, f, hp0, x0, x1, x2, x3, hkk, hatt⟩ := HNODE.out j nd hge
      have hkl : km = nd.kids.length := by
        obtain ⟨p', c', e, -⟩ := kat_node hkk
        injection e
      have hal : am = nd.attrs.length := by
        obtain ⟨_, _, e⟩ := own_len hatt
        injection e
      have hbr := HBW.out.trans (HB.out.mono HBW.out.size)
      have hcnt := HCN.out j nd hge
      have HCK := hide (fun p' li' (hf : FineL blocks voids nd.kids p' li' false) wx (hx : Below w0.heap.size w0 wx) => HIH.out (cntL nd.kids) (by have := HM.out; omega) wx (.slice kp km kc) nd.kids f p' li' (Nat.le_refl _) (by have := HM.out; omega) hf hkk hx)
      have hfin := HF.out j nd hge
      have HPREV : Hid (∀ i y, j = i + 1 → ns[i]? = some y → wr.cell? ⟨g, i * 4, none⟩ = some (.string ⟨y.name.toArray⟩)) := hide (by
        intro i y e hy
        obtain ⟨g', _, _, _, _, _, _, _, hp', x0', -⟩ := HNODE.out i y hy
        rw [hp0] at hp'
        cases hp'
        exact cell_keep x0' hbr)
      subst hp0
      replace x0 := cell_keep x0 hbr
      replace x1 := cell_keep x1 hbr
      replace x2 := cell_keep x2 hbr
      replace x3 := cell_keep x3 hbr
      obtain ⟨XN, hXN⟩ : ∃ X : ByteArray, X = ⟨nd.name.toArray⟩ := ⟨_, rfl⟩
      obtain ⟨XT, hXT⟩ : ∃ X : ByteArray, X = ⟨nd.text.toArray⟩ := ⟨_, rfl⟩
      rw [← hXN] at x0
      rw [← hXT] at x2
      have hbl : bl XN = nd.name := by rw [hXN]
      have q0 : XN.toList.isEmpty = decide (nd.name = []) := by
        rw [ByteArray.toList_eq, hXN]
        show nd.name.isEmpty = _
        cases nd.name <;> simp
      have qT : XT.toList.isEmpty = decide (nd.text = []) := by
        rw [ByteArray.toList_eq, hXT]
        show nd.text.isEmpty = _
        cases nd.text <;> simp
      have hwsz : w0.heap.size ≤ wr.heap.size := hbr.size
      obtain ⟨w2, hw2⟩ : ∃ w2, w2 = wr.alloc (.cells #[.string XN, .slice ap am ac, .string XT, .slice kp km kc] 40) := ⟨_, rfl⟩
      have hb2 : Below w0.heap.size w0 w2 := by rw [hw2]; exact hbr.alloc hwsz _
      have hbw2 : Below w.heap.size w w2 := by rw [hw2]; exact HB.out.alloc HB.out.size _
      have hbrw : Below wr.heap.size wr w2 := by rw [hw2]; exact (Below.refl _ _).alloc (Nat.le_refl _) _
      have y0 : w2.cell? ⟨wr.heap.size, 0, none⟩ = some (.string XN) := by rw [hw2, new_cell]; rfl
      have y1 : w2.cell? ⟨wr.heap.size, 1, none⟩ = some (.slice ap am ac) := by rw [hw2, new_cell]; rfl
      have y2 : w2.cell? ⟨wr.heap.size, 2, none⟩ = some (.string XT) := by rw [hw2, new_cell]; rfl
      have y3 : w2.cell? ⟨wr.heap.size, 3, none⟩ = some (.slice kp km kc) := by rw [hw2, new_cell]; rfl
      have HB2 := hide hb2
      have HBW2 := hide hbw2
      by_cases hnm : nd.name = []
      · rw [decide_eq_true hnm] at q0
        match j, hjk, hd, hlt, hfin, hge, HPREV, x0, x1, x2, x3 with
        | 0, hjk, hd, hlt, hfin, hge, HPREV, x0, x1, x2, x3 =>
          obtain ⟨t1, t2, t3, -⟩ := ((FineN_iff _ _ _ _).1 (hfin.1 rfl)).1 hnm
          rw [decide_eq_false t1] at qT
          have hk0 : km = 0 := by rw [hkl, t2]; rfl
          have ha0 : am = 0 := by rw [hal, t3]; rfl
          subst hk0
          subst ha0
          clear hfin hge HPREV hkl hal hkk hatt hbr hcnt HCK hXN hXT hbl t1 t2 t3 hnm HB2 hb2 hbw2 hbrw
          go_upto_region 5 with fail
          rw [← hw2]
          clear hw2 x0 x1 x2 x3
          go_wp2_with fail
          go_roundg (gk - 1)
          case measure => omega
          case rel => exact ⟨1, by omega, by first | rfl | simp, HBW2⟩
        | i + 1, hjk, hd, hlt, hfin, hge, HPREV, x0, x1, x2, x3 =>
          have hil : i < ns.length := by rw [← HN.out]; omega
          have hgi : ns[i]? = some ns[i] := List.getElem?_eq_getElem hil
          generalize ns[i] = y at hgi
          obtain ⟨t1, t2, t3, t4⟩ := ((FineN_iff _ _ _ _).1 (hfin.2 i y rfl hgi)).1 hnm
          have z0 := cell_keep (HPREV.out i y rfl hgi) hbrw
          have hyn : y.name ≠ [] := by simpa using t4
          obtain ⟨XP, hXP⟩ : ∃ X : ByteArray, X = ⟨y.name.toArray⟩ := ⟨_, rfl⟩
          rw [← hXP] at z0
          have qP : XP.toList.isEmpty = false := by
            rw [ByteArray.toList_eq, hXP]
            show y.name.isEmpty = false
            cases hh : y.name with
            | nil => exact absurd hh hyn
            | cons => rfl
          rw [decide_eq_false t1] at qT
          have hk0 : km = 0 := by rw [hkl, t2]; rfl
          have ha0 : am = 0 := by rw [hal, t3]; rfl
          subst hk0
          subst ha0
          clear hfin hge HPREV hkl hal hkk hatt hbr hcnt HCK hXN hXT hXP hbl t1 t2 t3 t4 hnm HB2 hb2 hbw2 hbrw hgi hyn
          go_upto_region 5 with fail
          rw [← hw2]
          clear hw2 x0 x1 x2 x3
          go_wp2_with fail
          go_roundg (gk - 1)
          case measure => omega
          case rel => exact ⟨i + 1 + 1, by omega, by first | rfl | simp, HBW2⟩
      · rw [decide_eq_false hnm] at q0
        have hfn : ∃ pr, FineN blocks voids nd p li pr := by
          cases j with
          | zero => exact ⟨_, hfin.1 rfl⟩
          | succ i =>
            have hil : i < ns.length := by rw [← HN.out]; omega
            exact ⟨_, hfin.2 i _ rfl (List.getElem?_eq_getElem hil)⟩
        obtain ⟨pr, hfn⟩ := hfn
        obtain ⟨t1, hblk, hlic, hvoid, hfk⟩ := ((FineN_iff _ _ _ _).1 hfn).2 hnm
        rw [decide_eq_true t1] at qT
        obtain ⟨P', HP⟩ : ∃ P', P' = (p || decide (nd.name = [112])) := ⟨_, rfl⟩
        obtain ⟨L', HL⟩ : ∃ L', L' = ((li && decide (nd.name ≠ [117, 108]) && decide (nd.name ≠ [111, 108])) || decide (nd.name = [108, 105])) := ⟨_, rfl⟩
        rw [← HP, ← HL] at hfk
        replace HCK := hide (HCK.out P' L' hfk)
        have Eli : (XN.toList == [108, 105]) = decide (nd.name = [108, 105]) := by rw [eqlit, hbl]
        have Ep : (XN.toList == [112]) = decide (nd.name = [112]) := by rw [eqlit, hbl]
        have Eul : (XN.toList == [117, 108]) = decide (nd.name = [117, 108]) := by rw [eqlit, hbl]
        have Eol : (XN.toList == [111, 108]) = decide (nd.name = [111, 108]) := by rw [eqlit, hbl]
        have Uli : (XN.toList != [108, 105]) = !decide (nd.name = [108, 105]) := by rw [← Eli]; rfl
        have Up : (XN.toList != [112]) = !decide (nd.name = [112]) := by rw [← Ep]; rfl
        have Uul : (XN.toList != [117, 108]) = !decide (nd.name = [117, 108]) := by rw [← Eul]; rfl
        have Uol : (XN.toList != [111, 108]) = !decide (nd.name = [111, 108]) := by rw [← Eol]; rfl
        replace HL : L' = ((li && !decide (nd.name = [117, 108]) && !decide (nd.name = [111, 108])) || decide (nd.name = [108, 105])) := by
          rw [HL]
          simp
        have HV := hide (fun w => by have := void_any XN w; rw [hbl] at this; exact this)
        have HBK := hide (fun w => by have := block_any XN w; rw [hbl] at this; exact this)
        have HKL := hide hkl
        clear hfin hge HPREV hal hkl hkk hatt hbr hcnt hXN hXT hbl hfk hfn hb2 hbw2 hbrw HNODE HIH HF HCN t1
        go_upto_region 5 with fail
        rw [← hw2]
        clear hw2 x0 x1 x2 x3
        cases p with
        | true =>
          cases li with
          | true =>
            have hli : nd.name ≠ [108, 105] := fun e => hblk ⟨rfl, by rw [e]; decide⟩
            have hp : nd.name ≠ [112] := fun e => hblk ⟨rfl, by rw [e]; decide⟩
            have hul : nd.name ≠ [117, 108] := fun e => hblk ⟨rfl, by rw [e]; decide⟩
            have hol : nd.name ≠ [111, 108] := fun e => hblk ⟨rfl, by rw [e]; decide⟩
            have hbf : nd.name ∉ blocks := fun e => hblk ⟨rfl, e⟩
            rw [decide_eq_false hbf] at HBK
            by_cases hv : nd.name ∈ voids
            · have hkm : km = 0 := by rw [HKL.out, hvoid hv]; rfl
              rw [decide_eq_true hv] at HV
              rw [decide_eq_false hli] at Eli HL Uli
              rw [decide_eq_false hp] at Ep HP Up
              rw [decide_eq_false hul] at Eul HL Uul
              rw [decide_eq_false hol] at Eol HL Uol
              obtain rfl : P' = true := HP.trans rfl
              obtain rfl : L' = true := HL.trans rfl
              have HCK2 := hide (HCK.out w2 HB2.out)
              subst hkm
              clear HCK HP HL hul hol hli hp hblk hlic hvoid hv hnm HKL hbf
              go_wp2_with fail
              refine (HBK.out _).mono ?_
              rintro e wb ⟨rfl, rfl⟩
              go_wp2_with fail
              refine (HV.out _).mono ?_
              rintro e wv ⟨rfl, rfl⟩
              go_wp2_with fail
              refine HCK2.out.mono ?_
              rintro e w3 ⟨rfl, hb3⟩
              have HB3 := hide (HBW2.out.trans (hb3.mono HBW2.out.size))
              clear hb3 HCK2 HB2 HBW2
              go_wp2_with fail
              go_roundg (gk - 1)
              case measure => omega
              case rel => exact ⟨j + 1, by omega, by first | rfl | simp, HB3⟩
            · rw [decide_eq_false hv] at HV
              rw [decide_eq_false hli] at Eli HL Uli
              rw [decide_eq_false hp] at Ep HP Up
              rw [decide_eq_false hul] at Eul HL Uul
              rw [decide_eq_false hol] at Eol HL Uol
              obtain rfl : P' = true := HP.trans rfl
              obtain rfl : L' = true := HL.trans rfl
              have HCK2 := hide (HCK.out w2 HB2.out)
              clear HCK HP HL hul hol hli hp hblk hlic hvoid hv hnm HKL hbf
              go_wp2_with fail
              refine (HBK.out _).mono ?_
              rintro e wb ⟨rfl, rfl⟩
              go_wp2_with fail
              refine (HV.out _).mono ?_
              rintro e wv ⟨rfl, rfl⟩
              go_wp2_with fail
              refine HCK2.out.mono ?_
              rintro e w3 ⟨rfl, hb3⟩
              have HB3 := hide (HBW2.out.trans (hb3.mono HBW2.out.size))
              clear hb3 HCK2 HB2 HBW2
              go_wp2_with fail
              go_roundg (gk - 1)
              case measure => omega
              case rel => exact ⟨j + 1, by omega, by first | rfl | simp, HB3⟩
          | false =>
            have hli : nd.name ≠ [108, 105] := fun e => hblk ⟨rfl, by rw [e]; decide⟩
            have hp : nd.name ≠ [112] := fun e => hblk ⟨rfl, by rw [e]; decide⟩
            have hul : nd.name ≠ [117, 108] := fun e => hblk ⟨rfl, by rw [e]; decide⟩
            have hol : nd.name ≠ [111, 108] := fun e => hblk ⟨rfl, by rw [e]; decide⟩
            have hbf : nd.name ∉ blocks := fun e => hblk ⟨rfl, e⟩
            rw [decide_eq_false hbf] at HBK
            by_cases hv : nd.name ∈ voids
            · have hkm : km = 0 := by rw [HKL.out, hvoid hv]; rfl
              rw [decide_eq_true hv] at HV
              rw [decide_eq_false hli] at Eli HL Uli
              rw [decide_eq_false hp] at Ep HP Up
              rw [decide_eq_false hul] at Eul HL Uul
              rw [decide_eq_false hol] at Eol HL Uol
              obtain rfl : P' = true := HP.trans rfl
              obtain rfl : L' = false := HL.trans rfl
              have HCK2 := hide (HCK.out w2 HB2.out)
              subst hkm
              clear HCK HP HL hul hol hli hp hblk hlic hvoid hv hnm HKL hbf
              go_wp2_with fail
              refine (HBK.out _).mono ?_
              rintro e wb ⟨rfl, rfl⟩
              go_wp2_with fail
              refine (HV.out _).mono ?_
              rintro e wv ⟨rfl, rfl⟩
              go_wp2_with fail
              refine HCK2.out.mono ?_
              rintro e w3 ⟨rfl, hb3⟩
              have HB3 := hide (HBW2.out.trans (hb3.mono HBW2.out.size))
              clear hb3 HCK2 HB2 HBW2
              go_wp2_with fail
              go_roundg (gk - 1)
              case measure => omega
              case rel => exact ⟨j + 1, by omega, by first | rfl | simp, HB3⟩
            · rw [decide_eq_false hv] at HV
              rw [decide_eq_false hli] at Eli HL Uli
              rw [decide_eq_false hp] at Ep HP Up
              rw [decide_eq_false hul] at Eul HL Uul
              rw [decide_eq_false hol] at Eol HL Uol
              obtain rfl : P' = true := HP.trans rfl
              obtain rfl : L' = false := HL.trans rfl
              have HCK2 := hide (HCK.out w2 HB2.out)
              clear HCK HP HL hul hol hli hp hblk hlic hvoid hv hnm HKL hbf
              go_wp2_with fail
              refine (HBK.out _).mono ?_
              rintro e wb ⟨rfl, rfl⟩
              go_wp2_with fail
              refine (HV.out _).mono ?_
              rintro e wv ⟨rfl, rfl⟩
              go_wp2_with fail
              refine HCK2.out.mono ?_
              rintro e w3 ⟨rfl, hb3⟩
              have HB3 := hide (HBW2.out.trans (hb3.mono HBW2.out.size))
              clear hb3 HCK2 HB2 HBW2
              go_wp2_with fail
              go_roundg (gk - 1)
              case measure => omega
              case rel => exact ⟨j + 1, by omega, by first | rfl | simp, HB3⟩
        | false =>
          cases li with
          | true =>
            have hli : nd.name ≠ [108, 105] := fun e => hlic ⟨rfl, e⟩
            by_cases hp : nd.name = [112]
            · have hul : nd.name ≠ [117, 108] := by rw [hp]; decide
              have hol : nd.name ≠ [111, 108] := by rw [hp]; decide
              have hv : nd.name ∉ voids := by rw [hp]; decide
              rw [decide_eq_false hv] at HV
              rw [decide_eq_false hli] at Eli HL Uli
              rw [decide_eq_true hp] at Ep HP Up
              rw [decide_eq_false hul] at Eul HL Uul
              rw [decide_eq_false hol] at Eol HL Uol
              obtain rfl : P' = true := HP.trans rfl
              obtain rfl : L' = true := HL.trans rfl
              have HCK2 := hide (HCK.out w2 HB2.out)
              clear HCK HP HL hul hol hli hp hblk hlic hvoid hv hnm HKL
              go_wp2_with fail
              refine (HV.out _).mono ?_
              rintro e wv ⟨rfl, rfl⟩
              go_wp2_with fail
              refine HCK2.out.mono ?_
              rintro e w3 ⟨rfl, hb3⟩
              have HB3 := hide (HBW2.out.trans (hb3.mono HBW2.out.size))
              clear hb3 HCK2 HB2 HBW2
              go_wp2_with fail
              go_roundg (gk - 1)
              case measure => omega
              case rel => exact ⟨j + 1, by omega, by first | rfl | simp, HB3⟩
            by_cases hul : nd.name = [117, 108]
            · have hol : nd.name ≠ [111, 108] := by rw [hul]; decide
              have hv : nd.name ∉ voids := by rw [hul]; decide
              rw [decide_eq_false hv] at HV
              rw [decide_eq_false hli] at Eli HL Uli
              rw [decide_eq_false hp] at Ep HP Up
              rw [decide_eq_true hul] at Eul HL Uul
              rw [decide_eq_false hol] at Eol HL Uol
              obtain rfl : P' = false := HP.trans rfl
              obtain rfl : L' = false := HL.trans rfl
              have HCK2 := hide (HCK.out w2 HB2.out)
              clear HCK HP HL hul hol hli hp hblk hlic hvoid hv hnm HKL
              go_wp2_with fail
              refine (HV.out _).mono ?_
              rintro e wv ⟨rfl, rfl⟩
              go_wp2_with fail
              refine HCK2.out.mono ?_
              rintro e w3 ⟨rfl, hb3⟩
              have HB3 := hide (HBW2.out.trans (hb3.mono HBW2.out.size))
              clear hb3 HCK2 HB2 HBW2
              go_wp2_with fail
              go_roundg (gk - 1)
              case measure => omega
              case rel => exact ⟨j + 1, by omega, by first | rfl | simp, HB3⟩
            by_cases hol : nd.name = [111, 108]
            · have hv : nd.name ∉ voids := by rw [hol]; decide
              rw [decide_eq_false hv] at HV
              rw [decide_eq_false hli] at Eli HL Uli
              rw [decide_eq_false hp] at Ep HP Up
              rw [decide_eq_false hul] at Eul HL Uul
              rw [decide_eq_true hol] at Eol HL Uol
              obtain rfl : P' = false := HP.trans rfl
              obtain rfl : L' = false := HL.trans rfl
              have HCK2 := hide (HCK.out w2 HB2.out)
              clear HCK HP HL hul hol hli hp hblk hlic hvoid hv hnm HKL
              go_wp2_with fail
              refine (HV.out _).mono ?_
              rintro e wv ⟨rfl, rfl⟩
              go_wp2_with fail
              refine HCK2.out.mono ?_
              rintro e w3 ⟨rfl, hb3⟩
              have HB3 := hide (HBW2.out.trans (hb3.mono HBW2.out.size))
              clear hb3 HCK2 HB2 HBW2
              go_wp2_with fail
              go_roundg (gk - 1)
              case measure => omega
              case rel => exact ⟨j + 1, by omega, by first | rfl | simp, HB3⟩
            by_cases hv : nd.name ∈ voids
            · have hkm : km = 0 := by rw [HKL.out, hvoid hv]; rfl
              rw [decide_eq_true hv] at HV
              rw [decide_eq_false hli] at Eli HL Uli
              rw [decide_eq_false hp] at Ep HP Up
              rw [decide_eq_false hul] at Eul HL Uul
              rw [decide_eq_false hol] at Eol HL Uol
              obtain rfl : P' = false := HP.trans rfl
              obtain rfl : L' = true := HL.trans rfl
              have HCK2 := hide (HCK.out w2 HB2.out)
              subst hkm
              clear HCK HP HL hul hol hli hp hblk hlic hvoid hv hnm HKL
              go_wp2_with fail
              refine (HV.out _).mono ?_
              rintro e wv ⟨rfl, rfl⟩
              go_wp2_with fail
              refine HCK2.out.mono ?_
              rintro e w3 ⟨rfl, hb3⟩
              have HB3 := hide (HBW2.out.trans (hb3.mono HBW2.out.size))
              clear hb3 HCK2 HB2 HBW2
              go_wp2_with fail
              go_roundg (gk - 1)
              case measure => omega
              case rel => exact ⟨j + 1, by omega, by first | rfl | simp, HB3⟩
            · rw [decide_eq_false hv] at HV
              rw [decide_eq_false hli] at Eli HL Uli
              rw [decide_eq_false hp] at Ep HP Up
              rw [decide_eq_false hul] at Eul HL Uul
              rw [decide_eq_false hol] at Eol HL Uol
              obtain rfl : P' = false := HP.trans rfl
              obtain rfl : L' = true := HL.trans rfl
              have HCK2 := hide (HCK.out w2 HB2.out)
              clear HCK HP HL hul hol hli hp hblk hlic hvoid hv hnm HKL
              go_wp2_with fail
              refine (HV.out _).mono ?_
              rintro e wv ⟨rfl, rfl⟩
              go_wp2_with fail
              refine HCK2.out.mono ?_
              rintro e w3 ⟨rfl, hb3⟩
              have HB3 := hide (HBW2.out.trans (hb3.mono HBW2.out.size))
              clear hb3 HCK2 HB2 HBW2
              go_wp2_with fail
              go_roundg (gk - 1)
              case measure => omega
              case rel => exact ⟨j + 1, by omega, by first | rfl | simp, HB3⟩
          | false =>
            by_cases hli : nd.name = [108, 105]
            · have hp : nd.name ≠ [112] := by rw [hli]; decide
              have hul : nd.name ≠ [117, 108] := by rw [hli]; decide
              have hol : nd.name ≠ [111, 108] := by rw [hli]; decide
              have hv : nd.name ∉ voids := by rw [hli]; decide
              rw [decide_eq_false hv] at HV
              rw [decide_eq_true hli] at Eli HL Uli
              rw [decide_eq_false hp] at Ep HP Up
              rw [decide_eq_false hul] at Eul HL Uul
              rw [decide_eq_false hol] at Eol HL Uol
              obtain rfl : P' = false := HP.trans rfl
              obtain rfl : L' = true := HL.trans rfl
              have HCK2 := hide (HCK.out w2 HB2.out)
              clear HCK HP HL hul hol hli hp hblk hlic hvoid hv hnm HKL
              go_wp2_with fail
              refine (HV.out _).mono ?_
              rintro e wv ⟨rfl, rfl⟩
              go_wp2_with fail
              refine HCK2.out.mono ?_
              rintro e w3 ⟨rfl, hb3⟩
              have HB3 := hide (HBW2.out.trans (hb3.mono HBW2.out.size))
              clear hb3 HCK2 HB2 HBW2
              go_wp2_with fail
              go_roundg (gk - 1)
              case measure => omega
              case rel => exact ⟨j + 1, by omega, by first | rfl | simp, HB3⟩
            by_cases hp : nd.name = [112]
            · have hul : nd.name ≠ [117, 108] := by rw [hp]; decide
              have hol : nd.name ≠ [111, 108] := by rw [hp]; decide
              have hv : nd.name ∉ voids := by rw [hp]; decide
              rw [decide_eq_false hv] at HV
              rw [decide_eq_false hli] at Eli HL Uli
              rw [decide_eq_true hp] at Ep HP Up
              rw [decide_eq_false hul] at Eul HL Uul
              rw [decide_eq_false hol] at Eol HL Uol
              obtain rfl : P' = true := HP.trans rfl
              obtain rfl : L' = false := HL.trans rfl
              have HCK2 := hide (HCK.out w2 HB2.out)
              clear HCK HP HL hul hol hli hp hblk hlic hvoid hv hnm HKL
              go_wp2_with fail
              refine (HV.out _).mono ?_
              rintro e wv ⟨rfl, rfl⟩
              go_wp2_with fail
              refine HCK2.out.mono ?_
              rintro e w3 ⟨rfl, hb3⟩
              have HB3 := hide (HBW2.out.trans (hb3.mono HBW2.out.size))
              clear hb3 HCK2 HB2 HBW2
              go_wp2_with fail
              go_roundg (gk - 1)
              case measure => omega
              case rel => exact ⟨j + 1, by omega, by first | rfl | simp, HB3⟩
            by_cases hul : nd.name = [117, 108]
            · have hol : nd.name ≠ [111, 108] := by rw [hul]; decide
              have hv : nd.name ∉ voids := by rw [hul]; decide
              rw [decide_eq_false hv] at HV
              rw [decide_eq_false hli] at Eli HL Uli
              rw [decide_eq_false hp] at Ep HP Up
              rw [decide_eq_true hul] at Eul HL Uul
              rw [decide_eq_false hol] at Eol HL Uol
              obtain rfl : P' = false := HP.trans rfl
              obtain rfl : L' = false := HL.trans rfl
              have HCK2 := hide (HCK.out w2 HB2.out)
              clear HCK HP HL hul hol hli hp hblk hlic hvoid hv hnm HKL
              go_wp2_with fail
              refine (HV.out _).mono ?_
              rintro e wv ⟨rfl, rfl⟩
              go_wp2_with fail
              refine HCK2.out.mono ?_
              rintro e w3 ⟨rfl, hb3⟩
              have HB3 := hide (HBW2.out.trans (hb3.mono HBW2.out.size))
              clear hb3 HCK2 HB2 HBW2
              go_wp2_with fail
              go_roundg (gk - 1)
              case measure => omega
              case rel => exact ⟨j + 1, by omega, by first | rfl | simp, HB3⟩
            by_cases hol : nd.name = [111, 108]
            · have hv : nd.name ∉ voids := by rw [hol]; decide
              rw [decide_eq_false hv] at HV
              rw [decide_eq_false hli] at Eli HL Uli
              rw [decide_eq_false hp] at Ep HP Up
              rw [decide_eq_false hul] at Eul HL Uul
              rw [decide_eq_true hol] at Eol HL Uol
              obtain rfl : P' = false := HP.trans rfl
              obtain rfl : L' = false := HL.trans rfl
              have HCK2 := hide (HCK.out w2 HB2.out)
              clear HCK HP HL hul hol hli hp hblk hlic hvoid hv hnm HKL
              go_wp2_with fail
              refine (HV.out _).mono ?_
              rintro e wv ⟨rfl, rfl⟩
              go_wp2_with fail
              refine HCK2.out.mono ?_
              rintro e w3 ⟨rfl, hb3⟩
              have HB3 := hide (HBW2.out.trans (hb3.mono HBW2.out.size))
              clear hb3 HCK2 HB2 HBW2
              go_wp2_with fail
              go_roundg (gk - 1)
              case measure => omega
              case rel => exact ⟨j + 1, by omega, by first | rfl | simp, HB3⟩
            by_cases hv : nd.name ∈ voids
            · have hkm : km = 0 := by rw [HKL.out, hvoid hv]; rfl
              rw [decide_eq_true hv] at HV
              rw [decide_eq_false hli] at Eli HL Uli
              rw [decide_eq_false hp] at Ep HP Up
              rw [decide_eq_false hul] at Eul HL Uul
              rw [decide_eq_false hol] at Eol HL Uol
              obtain rfl : P' = false := HP.trans rfl
              obtain rfl : L' = false := HL.trans rfl
              have HCK2 := hide (HCK.out w2 HB2.out)
              subst hkm
              clear HCK HP HL hul hol hli hp hblk hlic hvoid hv hnm HKL
              go_wp2_with fail
              refine (HV.out _).mono ?_
              rintro e wv ⟨rfl, rfl⟩
              go_wp2_with fail
              refine HCK2.out.mono ?_
              rintro e w3 ⟨rfl, hb3⟩
              have HB3 := hide (HBW2.out.trans (hb3.mono HBW2.out.size))
              clear hb3 HCK2 HB2 HBW2
              go_wp2_with fail
              go_roundg (gk - 1)
              case measure => omega
              case rel => exact ⟨j + 1, by omega, by first | rfl | simp, HB3⟩
            · rw [decide_eq_false hv] at HV
              rw [decide_eq_false hli] at Eli HL Uli
              rw [decide_eq_false hp] at Ep HP Up
              rw [decide_eq_false hul] at Eul HL Uul
              rw [decide_eq_false hol] at Eol HL Uol
              obtain rfl : P' = false := HP.trans rfl
              obtain rfl : L' = false := HL.trans rfl
              have HCK2 := hide (HCK.out w2 HB2.out)
              clear HCK HP HL hul hol hli hp hblk hlic hvoid hv hnm HKL
              go_wp2_with fail
              refine (HV.out _).mono ?_
              rintro e wv ⟨rfl, rfl⟩
              go_wp2_with fail
              refine HCK2.out.mono ?_
              rintro e w3 ⟨rfl, hb3⟩
              have HB3 := hide (HBW2.out.trans (hb3.mono HBW2.out.size))
              clear hb3 HCK2 HB2 HBW2
              go_wp2_with fail
              go_roundg (gk - 1)
              case measure => omega
              case rel => exact ⟨j + 1, by omega, by first | rfl | simp, HB3⟩
    · have hd : decide ((j : Int) < (N : Int)) = false := decide_eq_false (by omega)
      go_wp2_with fail
      go_ret
      exact ⟨rfl, HB.out⟩
end Go.Proofs.Ytkdppcpkigpmdaa
