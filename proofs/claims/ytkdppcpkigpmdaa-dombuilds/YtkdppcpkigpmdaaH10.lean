/-
  The document's builder and the program's, step by step.
-/
import Derived.Test.YtkdppcpkigpmdaaH9
namespace Go.Proofs.Ytkdppcpkigpmdaa
open Go.RowKit
open Utf1

theorem inner_NF (ns : List (List UInt8)) (x : List UInt8) : ∀ L : List (List UInt8), innerN ns (L ++ [x]) = innerF ns L
  | [] => rfl
  | a :: L => by
    rw [List.cons_append]
    unfold innerN innerF
    rw [if_neg (by simp), List.length_append, inner_NF ns x L]
    rfl
theorem nmF_fa (fl : List Fl) (k : Nat) : nmF fl k = (((fl.map Fl.fa)[k]?).map Fa.name).getD [] := by
  unfold nmF
  rw [List.getElem?_map]
  cases fl[k]? <;> rfl
/-- The names of what is open. -/
theorem rel_nm {r : List Nd} {t : List UInt8} {fl : List Fl} {op : List Nat} (h : Rel r t fl op) (hr : r ≠ []) (j : Nat) : ((op.map (nmF fl))[j]?) = (r.reverse[j + 1]?).map Nd.name := by
  obtain ⟨nd, q, rfl⟩ := List.exists_cons_of_ne_nil hr
  have hl := (rel_len h hr).2.1
  have hrl : (nd :: q).reverse.length = op.length + 1 := by rw [List.length_reverse]; exact hl.symm
  by_cases hj : j < op.length
  · have hgo : op[j]? = some op[j] := List.getElem?_eq_getElem hj
    have hgr : (nd :: q).reverse[j + 1]? = some ((nd :: q).reverse[j + 1]'(by omega)) := List.getElem?_eq_getElem _
    generalize op[j] = k at hgo
    generalize (nd :: q).reverse[j + 1]'(by omega) = y at hgr
    have hop := hgo
    rw [h.op, List.reverse_cons, ← opS_textIn q.reverse nd t 0] at hop
    have hlen : (q.reverse ++ [textIn nd t]).length = op.length + 1 := by
      rw [← hrl]
      simp
    have hgx : (q.reverse ++ [textIn nd t])[j + 1]? = some ((q.reverse ++ [textIn nd t])[j + 1]'(by omega)) := List.getElem?_eq_getElem _
    generalize (q.reverse ++ [textIn nd t])[j + 1]'(by omega) = x at hgx
    have hxy : x.name = y.name := by
      rw [List.reverse_cons] at hgr
      by_cases hq : j + 1 < q.reverse.length
      · rw [List.getElem?_append_left hq] at hgx hgr
        rw [hgx] at hgr
        cases hgr
        rfl
      · have e : j + 1 = q.reverse.length := by
          have h1 : q.reverse.length + 1 = op.length + 1 := by rw [← hlen]; simp
          omega
        rw [e, List.getElem?_append_right (Nat.le_refl _), Nat.sub_self] at hgx hgr
        have e1 : textIn nd t = x := by simpa using hgx
        have e2 : nd = y := by simpa using hgr
        rw [← e1, ← e2, textIn_name]
    obtain ⟨_, h5⟩ := opS_at (q.reverse ++ [textIn nd t]) (-1) 0 j k x hop hgx
    rw [Nat.sub_zero] at h5
    rw [List.getElem?_map, hgo, hgr]
    show some (nmF fl k) = some y.name
    rw [nmF_fa, h.fl]
    show some ((((flS (q.reverse ++ [textIn nd t]) (-1) 0)[k]?).map Fa.name).getD []) = _
    rw [h5, ← hxy]
    rfl
  · rw [List.getElem?_eq_none (by rw [List.length_map]; omega), List.getElem?_eq_none (by omega)]
    rfl
theorem rel_names {r : List Nd} {t : List UInt8} {fl : List Fl} {op : List Nat} (h : Rel r t fl op) (hr : r ≠ []) : ∃ x, r.map Nd.name = nmsF fl op ++ [x] := by
  obtain ⟨root, os, hos⟩ : ∃ root os, r.reverse = root :: os := List.exists_cons_of_ne_nil (by simpa using hr)
  have e : op.map (nmF fl) = os.map Nd.name := by
    apply List.ext_getElem?
    intro j
    rw [rel_nm h hr j, hos, List.getElem?_cons_succ, List.getElem?_map]
  refine ⟨root.name, ?_⟩
  unfold nmsF
  rw [e]
  have h2 : r = (root :: os).reverse := by rw [← hos, List.reverse_reverse]
  rw [h2]
  simp
theorem rel_inner {r : List Nd} {t : List UInt8} {fl : List Fl} {op : List Nat} (h : Rel r t fl op) (hr : r ≠ []) (ns : List (List UInt8)) : innerF ns (nmsF fl op) = innerR ns r := by
  obtain ⟨x, hx⟩ := rel_names h hr
  rw [inner_names, hx, inner_NF]
theorem rel_rclose {r : List Nd} {t : List UInt8} {fl : List Fl} {op : List Nat} (h : Rel r t fl op) (hr : r ≠ []) (name : List UInt8) : Rel (closeIn [name] r t).1 (closeIn [name] r t).2 fl (rclose name fl op) := by
  have hl := (rel_len h hr).2.1
  have hlt := innerR_lt [name] r hr
  unfold closeIn rclose
  rw [rel_inner h hr]
  split
  · rename_i hp
    have := rel_shut (r.length - innerR [name] r) r t fl op (by omega) h
    rw [show op.length - (r.length - innerR [name] r) = innerR [name] r - 1 by omega] at this
    exact this
  · exact h
theorem rel_way {r : List Nd} {t : List UInt8} {fl : List Fl} {op : List Nat} (h : Rel r t fl op) (hr : r ≠ []) (hroot : r.getLast?.map Nd.name = some []) (name : List UInt8) : Rel (wayR name r t).1 (wayR name r t).2 fl (rway name fl op) := by
  have hc := rel_rclose h hr [112]
  have hca := closeIn_all [[112]] r t hr
  have hne : (closeIn [[112]] r t).1 ≠ [] := List.length_pos_iff.1 hca.1
  have hroot1 := (closeIn_root [[112]] r t hr).trans hroot
  unfold wayR rway rway1
  by_cases hb : name ∈ blocks
  · rw [if_pos hb, if_pos hb]
    obtain ⟨r1, t1, e1⟩ : ∃ r1 t1, closeIn [[112]] r t = (r1, t1) := ⟨_, _, rfl⟩
    obtain ⟨op1, e2⟩ : ∃ op1, rclose [112] fl op = op1 := ⟨_, rfl⟩
    rw [e1, e2] at hc
    rw [e1] at hne hroot1
    rw [e1, e2]
    have hc : Rel r1 t1 fl op1 := hc
    have hk : rk fl op1 = innerR [[108, 105], [117, 108], [111, 108]] r1 := rel_inner hc hne _
    have hl := (rel_len hc hne).2.1
    have hlt := innerR_lt [[108, 105], [117, 108], [111, 108]] r1 hne
    by_cases hli : name = [108, 105]
    · rw [if_pos hli]
      simp only []
      have hcond : (rli name fl op1 = true) ↔ r1.reverse[innerR [[108, 105], [117, 108], [111, 108]] r1]?.map Nd.name = some [108, 105] := by
        unfold rli
        rw [decide_eq_true hli, Bool.true_and, hk]
        by_cases h0 : 0 < innerR [[108, 105], [117, 108], [111, 108]] r1
        · rw [decide_eq_true h0, Bool.true_and, decide_eq_true_iff]
          obtain ⟨k, ek⟩ : ∃ k, innerR [[108, 105], [117, 108], [111, 108]] r1 = k + 1 := ⟨innerR [[108, 105], [117, 108], [111, 108]] r1 - 1, by omega⟩
          rw [ek, Nat.add_sub_cancel]
          have hnm := rel_nm hc hne k
          have hkl : k < op1.length := by omega
          rw [List.getElem?_map, List.getElem?_eq_getElem hkl] at hnm
          rw [← hnm, List.getD_eq_getElem?_getD, List.getElem?_eq_getElem hkl]
          show nmF fl op1[k] = _ ↔ some (nmF fl op1[k]) = _
          exact ⟨fun e => by rw [e], fun e => by simpa using e⟩
        · rw [decide_eq_false h0, Bool.false_and]
          have h00 : innerR [[108, 105], [117, 108], [111, 108]] r1 = 0 := by omega
          rw [h00, ← List.head?_eq_getElem?, List.head?_reverse, hroot1]
          exact ⟨(fun e => by cases e), (fun e => absurd e (by decide))⟩
      by_cases hh : r1.reverse[innerR [[108, 105], [117, 108], [111, 108]] r1]?.map Nd.name = some [108, 105]
      · rw [if_pos hh, if_pos (hcond.2 hh), hk]
        have h0 : 0 < innerR [[108, 105], [117, 108], [111, 108]] r1 := by
          refine Nat.pos_of_ne_zero fun e => ?_
          rw [e, ← List.head?_eq_getElem?, List.head?_reverse, hroot1] at hh
          exact absurd hh (by decide)
        have := rel_shut (r1.length - innerR [[108, 105], [117, 108], [111, 108]] r1) r1 t1 fl op1 (by omega) hc
        rw [show op1.length - (r1.length - innerR [[108, 105], [117, 108], [111, 108]] r1) = innerR [[108, 105], [117, 108], [111, 108]] r1 - 1 by omega] at this
        exact this
      · rw [if_neg hh, if_neg (fun e => hh (hcond.1 e))]
        exact hc
    · rw [if_neg hli]
      have : rli name fl op1 = false := by
        unfold rli
        rw [decide_eq_false hli, Bool.false_and]
      rw [this, if_neg (by simp)]
      exact hc
  · rw [if_neg hb, if_neg hb]
    have hli : name ≠ [108, 105] := fun e => hb (by rw [e]; decide)
    have : rli name fl op = false := by
      unfold rli
      rw [decide_eq_false hli, Bool.false_and]
    rw [this, if_neg (by simp)]
    exact h
/-- A start. -/
theorem rel_start {s : Bs} {u : Fs} (h : Rel s.r s.t u.fl u.op) (hg : Good s) (name : List UInt8) (hn : name ≠ []) (at' : List (List UInt8 × List UInt8)) (ap : Option Addr) (am ac : Nat) : Rel (startB name at' s).r (startB name at' s).t (startF name at' ap am ac u).fl (startF name at' ap am ac u).op := by
  have hw := rel_way h hg.ne hg.root name
  have W := wayR_all name s.r s.t hg.ne hg.root
  unfold startB startR startF
  rw [if_neg hn]
  cases hh : (wayR name s.r s.t).1 with
  | nil => rw [hh] at W; simp at W
  | cons nd q =>
    rw [hh] at hw
    obtain ⟨t1, ht1⟩ : ∃ t1, t1 = (wayR name s.r s.t).2 := ⟨_, rfl⟩
    obtain ⟨op2, hop2⟩ : ∃ op2, op2 = rway name u.fl u.op := ⟨_, rfl⟩
    rw [← ht1, ← hop2] at hw
    simp only []
    rw [← ht1, ← hop2]
    have hop : op2 = opS (q.reverse ++ [nd]) 0 := by rw [hw.op, List.reverse_cons]
    have hfl : u.fl.map Fl.fa = flS (q.reverse ++ [textIn nd t1]) (-1) 0 := hw.fl
    have hhere : hereF op2 = hereS (q.reverse ++ [textIn nd t1]) (-1) 0 := by rw [hop, here_eq, here_last q.reverse nd (textIn nd t1)]
    have hmap : (u.fl ++ [(⟨name, at', [], hereF op2, ap, am, ac⟩ : Fl)]).map Fl.fa = flS (q.reverse ++ [textIn nd t1]) (-1) 0 ++ [Nd.fa (.mk name at' [] []) (hereS (q.reverse ++ [textIn nd t1]) (-1) 0)] := by
      rw [List.map_append, hfl, ← hhere]
      rfl
    by_cases hv : name ∈ voids
    · rw [if_pos hv]
      simp only [if_pos hv]
      refine ⟨?_, ?_⟩
      · rw [hmap]
        show _ = flS (q.reverse ++ [textIn (addKid (textIn nd t1) (.mk name at' [] [])) []]) (-1) 0
        rw [textIn_nil, flS_add, flatN_eq]
        show _ ++ [_] = _ ++ (_ :: flatL [] _ _)
        rw [flatL]
      · rw [List.reverse_cons, opS_last q.reverse (addKid (textIn nd t1) (.mk name at' [] [])) nd]
        exact hop
    · rw [if_neg hv]
      simp only [if_neg hv]
      refine ⟨?_, ?_⟩
      · rw [hmap]
        show _ = flS ((textIn nd t1 :: q).reverse ++ [textIn (.mk name at' [] []) []]) (-1) 0
        rw [textIn_nil, List.reverse_cons, List.append_assoc]
        exact (flS_push q.reverse (textIn nd t1) (.mk name at' [] []) (-1) 0 rfl).symm
      · rw [List.reverse_cons, List.reverse_cons, List.append_assoc]
        show op2 ++ [u.fl.length] = opS (q.reverse ++ [textIn nd t1, .mk name at' [] []]) 0
        rw [opS_push q.reverse (textIn nd t1) (.mk name at' [] []) (-1) 0, opS_textIn, ← hop, ← hfl, List.length_map, Nat.zero_add]
theorem rel_end {s : Bs} {u : Fs} (h : Rel s.r s.t u.fl u.op) (hg : Good s) (name : List UInt8) : Rel (endB name s).r (endB name s).t (endF name u).fl (endF name u).op := by
  unfold endB endF
  rw [rel_inner h hg.ne]
  by_cases hi : 0 < innerR [name] s.r
  · rw [if_pos hi, if_pos hi]
    have := rel_rclose h hg.ne name
    unfold closeIn at this
    rw [if_pos hi] at this
    exact this
  · rw [if_neg hi, if_neg hi]
    by_cases hp : name = [112]
    · rw [if_pos hp, if_pos hp]
      have hs := rel_start h hg [112] (by simp) [] none 0 0
      have g := (start_good hg [112] []).1
      have hps := p_start s hg
      have := rel_rclose hs g.ne [112]
      unfold closeIn at this
      rw [if_pos hps] at this
      exact this
    · rw [if_neg hp, if_neg hp]
      by_cases hb : name = [98, 114]
      · rw [if_pos hb, if_pos hb]
        exact rel_start h hg [98, 114] (by simp) [] none 0 0
      · rw [if_neg hb, if_neg hb]
        exact h
end Go.Proofs.Ytkdppcpkigpmdaa
