/-
  The document's kids, walked.
-/
import Derived.Test.YtkdppcpkigpmdaaR28
namespace Go.Proofs.Ytkdppcpkigpmdaa
open Go.RowKit
open Utf1

/-- The rows that the document's kids has made so far. -/
def Out (w0 w : World) (base : Nat) (v : Value) (d : List Nd) : Prop := ∃ (l : List (Nd × Value × Value)) (fp : List Nat), l.map Prod.fst = d ∧ w.ownsRow base 40 4 v l.length (ndCells l) ∧ RAll w0 w base l fp ∧ (blk v ++ fp).Nodup
theorem Out.under {w0 w w' : World} {base : Nat} {v : Value} {d : List Nd} (h : Out w0 w base v d) (hb : Below w.heap.size w w') : Out w0 w' base v d := by
  obtain ⟨l, fp, h1, h2, h3, h4⟩ := h
  exact ⟨l, fp, h1, own_below h2 hb, h3.under hb, h4⟩

theorem node_one (a t : ByteArray) (p : Option Addr) (m c : Nat) (q : Option Addr) (m2 c2 : Nat) : ∀ x ∈ [Value.string a, .slice p m c, .string t, .slice q m2 c2], x.oneCell' = true := by
  intro x hx
  simp only [List.mem_cons, List.not_mem_nil, or_false] at hx
  rcases hx with rfl | rfl | rfl | rfl <;> rfl

set_option maxRecDepth 100000 in
set_option maxHeartbeats 8000000 in
theorem kids_st (w0 : World) (base R : Nat) (us : Fs) (hao : AttrsOk w0 us.fl) (hfl : us.fl.length ≤ 10000) : ∀ (M : Nat) (w : World) (ns : List Nd) (u : Int) (s : Nat) (pre post : List Fa) (p li pr : Bool), cntL ns ≤ M → FBs w base R us → us.fl.map Fl.fa = pre ++ (flatL ns u s ++ post) → pre.length = s → u + 1 = (s : Int) → (∀ f ∈ post, f.up < u ∨ ((s + cntL ns : Nat) : Int) ≤ f.up) → FineL blocks voids ns p li pr →
    Calls Try.prog 26 #[.pointer (some ⟨R, 0, none⟩), .int .i64 u] w fun e w' => ∃ q m c fp, e = .returned (.slice q m c) ∧ RAt w0 w' w.heap.size (.slice q m c) ns fp ∧ fp.Nodup ∧ Below w.heap.size w w' := by
  intro M
  induction M using Nat.strongRecOn with
  | _ M ih =>
  intro w ns u s pre post p li pr hM hF hlist hpre hu hpost hfine
  obtain ⟨N, hN⟩ : ∃ N, N = us.fl.length := ⟨_, rfl⟩
  have hsN : s ≤ N := by
    have := congrArg List.length hlist
    rw [List.length_map, List.length_append, hpre] at this
    omega
  have hN1 : N ≤ 10000 := by omega
  have HIH := hide ih
  have HF := hide hF
  have HM := hide hM
  have HN := hide hN
  have HAO := hide hao
  obtain ⟨i0, hi, hz0, hz1, hz2⟩ := info_parts infoNode
  have HINV : Hid (∃ (d rest : List Nd) (skip post' P : List Fa), ns = d ++ rest ∧ d = [] ∧ us.fl.map Fl.fa = P ++ (skip ++ (flatL rest u (s + skip.length) ++ post')) ∧ P.length = s ∧ (∀ f ∈ skip, f.up ≠ u) ∧ (∀ f ∈ post', f.up ≠ u) ∧ (rest ≠ [] → ∀ f ∈ post', f.up < u ∨ ((s + skip.length + cntL rest : Nat) : Int) ≤ f.up) ∧ ∃ pr, FineL blocks voids rest p li pr) := hide ⟨[], ns, [], post, pre, rfl, rfl, hlist, hpre, (fun f hf => by cases hf), (fun f hf => by rcases hpost f hf with h | h <;> omega), (fun _ => hpost), pr, hfine⟩
  have hcns : cntL ns ≤ 10000 := by
    have := congrArg List.length hlist
    rw [List.length_map, List.length_append, List.length_append, flatL_len] at this
    omega
  have HCNS := hide hcns
  have HU := hide hu
  have hub1 : -1 ≤ u := by omega
  have hub2 : u ≤ 10000 := by omega
  clear ih hF hM hN hlist hpre hpost hfine hcns hu
  go_enter Try.func26, Try.ntmps26
  go_wp2_with fail
  go_loopg [5, 6] (N - s) (fun k v5 v6 wr => ∃ (i : Nat), i + k = N ∧ s ≤ i ∧ v6 = .int .i64 (i : Int) ∧ (∃ q m c, v5 = .slice q m c) ∧ Hid (∃ (d rest : List Nd) (skip post' P : List Fa), ns = d ++ rest ∧ Out w0 wr w.heap.size v5 d ∧ us.fl.map Fl.fa = P ++ (skip ++ (flatL rest u (i + skip.length) ++ post')) ∧ P.length = i ∧ (∀ f ∈ skip, f.up ≠ u) ∧ (∀ f ∈ post', f.up ≠ u) ∧ (rest ≠ [] → ∀ f ∈ post', f.up < u ∨ ((i + skip.length + cntL rest : Nat) : Int) ≤ f.up) ∧ ∃ pr, FineL blocks voids rest p li pr) ∧ Hid (Below w.heap.size w wr))
  case atStart =>
    refine ⟨s, by omega, Nat.le_refl _, ?_, ⟨_, _, _, rfl⟩, hide ?_, hide (Below.refl _ _)⟩
    · first | (rw [HU.out]) | (show Value.int IntKind.i64 (u + 1) = _; rw [HU.out])
    · obtain ⟨d, rest, skip, post', P, e1, e2, e3⟩ := HINV.out
      exact ⟨d, rest, skip, post', P, e1, ⟨[], [], by rw [e2]; rfl, World.ownsRow_nil _ _ _ _, .nil, by simp [blk, Value.ownBlock]⟩, e3⟩
  case round =>
    obtain ⟨i, hik, hsi, rfl, ⟨oq, om, oc, rfl⟩, HV, HB⟩ := hrel
    clear HINV
    have hfr := FB.under HF.out HB.out
    obtain ⟨lp, lc, pp, pc, hR, hread, -⟩ := hfr.reads
    have c0 : wr.cell? ⟨R, 0, none⟩ = some (.slice lp us.fl.length lc) := tag_cell hR 0 _ rfl
    rw [← HN.out] at c0
    by_cases hlt : i < N
    · have hd : decide ((i : Int) < (N : Int)) = true := decide_eq_true (by omega)
      have hgf : us.fl[i]? = some (us.fl[i]'(by rw [← HN.out]; exact hlt)) := List.getElem?_eq_getElem _
      generalize us.fl[i]'(by rw [← HN.out]; exact hlt) = f at hgf
      obtain ⟨g, rfl, x0, x1, x2, x3, x4⟩ := hread i f hgf
      obtain ⟨d, rest, skip, post', P, e1, hout, e3, e4, e5, e6, e7, e8⟩ := HV.out
      have hfa : (skip ++ (flatL rest u (i + skip.length) ++ post'))[0]? = some f.fa := by
        have h1 : (us.fl.map Fl.fa)[i]? = some f.fa := by rw [List.getElem?_map, hgf]; rfl
        rw [e3, List.getElem?_append_right (by omega), e4, Nat.sub_self] at h1
        exact h1
      by_cases hup : f.up = u
      case neg =>
        have hupf : (f.up == u) = false := beq_eq_false_iff_ne.2 hup
        have HV2 : Hid (∃ (d rest : List Nd) (skip post' P : List Fa), ns = d ++ rest ∧ Out w0 wr w.heap.size (.slice oq om oc) d ∧ us.fl.map Fl.fa = P ++ (skip ++ (flatL rest u (i + 1 + skip.length) ++ post')) ∧ P.length = i + 1 ∧ (∀ f ∈ skip, f.up ≠ u) ∧ (∀ f ∈ post', f.up ≠ u) ∧ (rest ≠ [] → ∀ f ∈ post', f.up < u ∨ ((i + 1 + skip.length + cntL rest : Nat) : Int) ≤ f.up) ∧ ∃ pr, FineL blocks voids rest p li pr) := hide (by
          cases skip with
          | cons a sk =>
            have ea : a = f.fa := by simpa using hfa
            refine ⟨d, rest, sk, post', P ++ [a], e1, hout, ?_, by simp [e4], fun f hf => e5 f (by simp [hf]), e6, ?_, e8⟩
            · rw [e3, List.append_assoc, List.length_cons, show i + (sk.length + 1) = i + 1 + sk.length by omega]
              rfl
            · rw [List.length_cons] at e7
              rw [show i + 1 + sk.length + cntL rest = i + (sk.length + 1) + cntL rest by omega]
              exact e7
          | nil =>
            cases rest with
            | cons nd rest =>
              exfalso
              rw [List.nil_append, flatL, flatN_eq] at hfa
              have : nd.fa u = f.fa := by simpa using hfa
              exact hup (congrArg Fa.up this).symm
            | nil =>
              rw [flatL] at hfa
              cases post' with
              | nil => simp at hfa
              | cons a po =>
                have ea : a = f.fa := by simpa using hfa
                refine ⟨d, [], [], po, P ++ [a], e1, hout, ?_, by simp [e4], (fun f hf => by cases hf), (fun f hf => e6 f (by simp [hf])), (fun h => absurd rfl h), e8⟩
                rw [e3, flatL, flatL, List.append_assoc]
                rfl)
        obtain ⟨fu, hfu⟩ : ∃ fu, fu = f.up := ⟨_, rfl⟩
        rw [← hfu] at x4 hupf
        clear hfr hR hread hgf HV e1 e3 e4 e5 e6 e7 e8 hout hfa hup hfu x0 x1 x2 x3
        go_wp2_with fail
        go_roundg (gk - 1)
        case measure => omega
        case rel => exact ⟨i + 1, by omega, by omega, by first | rfl | simp, ⟨_, _, _, rfl⟩, HV2, HB⟩
      case pos =>
        subst hup
        have hsk : skip = [] := by
          cases skip with
          | nil => rfl
          | cons a sk =>
            have ea : a = f.fa := by simpa using hfa
            exact absurd (show a.up = f.up by rw [ea]; rfl) (e5 a (by simp))
        subst hsk
        obtain ⟨nd, rest', rfl⟩ : ∃ nd rest', rest = nd :: rest' := by
          cases rest with
          | cons a b => exact ⟨a, b, rfl⟩
          | nil =>
            rw [flatL] at hfa
            cases post' with
            | nil => simp at hfa
            | cons a po =>
              have ea : a = f.fa := by simpa using hfa
              exact absurd (show a.up = f.up by rw [ea]; rfl) (e6 a (by simp))
        rw [List.nil_append, flatL, flatN_eq] at hfa e3
        simp only [List.length_nil, Nat.add_zero] at e3 e7
        have hnf : nd.fa f.up = f.fa := by simpa using hfa
        have n1 : f.name = nd.name := (congrArg Fa.name hnf).symm
        have n2 : f.attrs = nd.attrs := (congrArg Fa.attrs hnf).symm
        have n3 : f.text = nd.text := (congrArg Fa.text hnf).symm
        obtain ⟨pr0, hfl0⟩ := e8
        rw [FineL] at hfl0
        obtain ⟨hfn, hfr0⟩ := hfl0
        have hcn := cntN_kids nd
        have hui : f.up < (i : Int) := by have := HU.out; omega
        have hns : ns = (d ++ [nd]) ++ rest' := by rw [e1]; simp
        have HNEXT : Hid (∀ wx v', Out w0 wx w.heap.size v' (d ++ [nd]) → ∃ (d rest : List Nd) (skip post' P : List Fa), ns = d ++ rest ∧ Out w0 wx w.heap.size v' d ∧ us.fl.map Fl.fa = P ++ (skip ++ (flatL rest f.up (i + 1 + skip.length) ++ post')) ∧ P.length = i + 1 ∧ (∀ f' ∈ skip, f'.up ≠ f.up) ∧ (∀ f' ∈ post', f'.up ≠ f.up) ∧ (rest ≠ [] → ∀ f' ∈ post', f'.up < f.up ∨ ((i + 1 + skip.length + cntL rest : Nat) : Int) ≤ f'.up) ∧ ∃ pr, FineL blocks voids rest p li pr) := hide (by
          intro wx v' hx
          refine ⟨d ++ [nd], rest', flatL nd.kids (i : Int) (i + 1), post', P ++ [nd.fa f.up], hns, hx, ?_, by simp [e4], ?_, e6, ?_, _, hfr0⟩
          · rw [e3, flatL_len, List.append_assoc, show i + 1 + cntL nd.kids = i + cntN nd by omega]
            simp
          · intro f' hf'
            rcases flatL_up _ _ _ f' hf' with h | h <;> omega
          · intro _ f' hf'
            rw [flatL_len]
            have := e7 (by simp) f' hf'
            rw [cntL] at this
            rcases this with h | h
            · exact .inl h
            · exact .inr (by omega))
        have hatt : AttrRow w0 f.ap f.am nd.attrs := by rw [← n2]; exact HAO.out f (List.mem_of_getElem? hgf)
        have HREC : Hid (nd.name ≠ [] → ∀ wx, FBs wx base R us → Calls Try.prog 26 #[.pointer (some ⟨R, 0, none⟩), .int .i64 (i : Int)] wx fun e w' => ∃ q m c fp, e = .returned (.slice q m c) ∧ RAt w0 w' wx.heap.size (.slice q m c) nd.kids fp ∧ fp.Nodup ∧ Below wx.heap.size wx w') := hide (by
          intro hne wx hx
          obtain ⟨_, _, _, _, hfk⟩ := ((FineN_iff _ _ _ _).1 hfn).2 hne
          have hlt2 : cntL nd.kids < M := by
            have h1 := HM.out
            rw [hns, cntL_app, cntL_app, cntL, cntL] at h1
            omega
          refine HIH.out (cntL nd.kids) hlt2 wx nd.kids (i : Int) (i + 1) (P ++ [nd.fa f.up]) (flatL rest' f.up (i + cntN nd) ++ post') _ _ _ (Nat.le_refl _) hx ?_ (by simp [e4]) (by omega) ?_ hfk
          · rw [e3]
            simp
          · intro f' hf'
            rcases List.mem_append.1 hf' with h | h
            · rcases flatL_up _ _ _ f' h with h | h
              · left; omega
              · right; omega
            · have := e7 (by simp) f' h
              rw [cntL] at this
              rcases this with h | h
              · left; omega
              · right; omega)
        have hkids0 : nd.name = [] → nd.kids = [] := fun e => (((FineN_iff _ _ _ _).1 hfn).1 e).2.1
        obtain ⟨l, fp, h1, hro, hall, hnd⟩ := hout
        have hom : om = l.length := by
          obtain ⟨_, _, e⟩ := own_len hro
          injection e
        subst hom
        have hll : l.length ≤ 10000 := by
          have h2 := congrArg List.length h1
          rw [List.length_map] at h2
          have h4 := HCNS.out
          have h5 := len_cnt ns
          have h6 := congrArg List.length hns
          rw [List.length_append, List.length_append] at h6
          omega
        obtain ⟨XN, hXN⟩ : ∃ X : ByteArray, X = ⟨f.name.toArray⟩ := ⟨_, rfl⟩
        obtain ⟨XT, hXT⟩ : ∃ X : ByteArray, X = ⟨f.text.toArray⟩ := ⟨_, rfl⟩
        rw [← hXN] at x0
        rw [← hXT] at x2
        have q0 : XN.toList.isEmpty = decide (nd.name = []) := by
          rw [ByteArray.toList_eq, hXN, n1]
          show nd.name.isEmpty = _
          cases nd.name <;> simp
        have HXX : Hid (XN = ⟨nd.name.toArray⟩ ∧ XT = ⟨nd.text.toArray⟩) := hide ⟨by rw [hXN, n1], by rw [hXT, n3]⟩
        obtain ⟨w2, hw2⟩ : ∃ w2, w2 = wr.alloc (.cells #[.string XN, .slice f.ap f.am f.ac, .string XT, .slice none 0 0] 40) := ⟨_, rfl⟩
        have hb2 : Below wr.heap.size wr w2 := by rw [hw2]; exact (Below.refl _ _).alloc (Nat.le_refl _) _
        have hbox : w2.heap[wr.heap.size]? = some (.cells #[.string XN, .slice f.ap f.am f.ac, .string XT, .slice none 0 0] 40 (0, 0)) := by rw [hw2]; exact heap_alloc_new _ _
        have hwz : w.heap.size ≤ wr.heap.size := HB.out.size
        have HB2 := hide (HB.out.trans (hb2.mono hwz))
        have HALL := hide (And.intro (hall.under hb2) (And.intro hnd (And.intro h1 hatt)))
        have HRO2 := hide (own_below hro hb2)
        have HLT := hide (And.intro hall.lt (own_lt hro))
        have HF2 := hide (FB.under hfr hb2)
        have HBOX := hide hbox
        have hs2 : wr.heap.size < w2.heap.size := lt_of_block hbox
        obtain ⟨Nb, hNb⟩ : ∃ Nb, Nb = wr.heap.size := ⟨_, rfl⟩
        rw [← hNb] at HBOX HLT hs2 hwz
        have HNb := hide hNb
        clear hfr hR hread hgf HV e1 e3 e4 e5 e6 e7 hfa n1 n2 n3 hfn hfr0 hns hnf hXN hXT hb2 hbox hall hro hnd h1 hatt HB hNb
        by_cases hnm : nd.name = []
        · rw [decide_eq_true hnm] at q0
          have hk0 := hkids0 hnm
          have HK0 := hide hk0
          have y0 : w2.cell? ⟨Nb, 0, none⟩ = some (.string XN) := tag_cell HBOX.out 0 _ rfl
          have y1 : w2.cell? ⟨Nb, 1, none⟩ = some (.slice f.ap f.am f.ac) := tag_cell HBOX.out 1 _ rfl
          have y2 : w2.cell? ⟨Nb, 2, none⟩ = some (.string XT) := tag_cell HBOX.out 2 _ rfl
          have y3 : w2.cell? ⟨Nb, 3, none⟩ = some (.slice none 0 0) := tag_cell HBOX.out 3 _ rfl
          have hal : Below w2.heap.size w2 (w2.alloc (.cells #[.string XN, .slice f.ap f.am f.ac, .string XT, .slice none 0 0] 40)) := (Below.refl _ _).alloc (Nat.le_refl _) _
          have HRO := hide (own_below HRO2.out hal)
          have HAL := hide (HALL.out.1.under hal)
          have HZ5 : Hid (w.heap.size ≤ (w2.alloc (.cells #[.string XN, .slice f.ap f.am f.ac, .string XT, .slice none 0 0] 40)).heap.size) := hide (Nat.le_trans HB2.out.size hal.size)
          have HB5 := hide (HB2.out.trans (hal.mono HB2.out.size))
          clear hal hk0 hkids0 hnm HREC HF2 HBOX HRO2
          go_upto_region 7 with fail
          rw [← hw2, ← HNb.out]
          clear hw2 HNb x0 x1 x2 x3
          go_wp2_with (at_builtin; refine wpList_append_new rfl (.tmp 44) (.tmp 46) 25 rfl w.heap.size 40 i0 _ 4 80 Try.underlying25 hi hz0 hz1 hz2 rfl (by decide) (.slice oq l.length oc) l.length (ndCells l) rfl HRO.out ⟨w2.heap.size, 0, none⟩ 1 1 [.string XN, .slice f.ap f.am f.ac, .string XT, .slice none 0 0] rfl rfl (five_newA w2 _ _) (node_one _ _ _ _ _ _ _ _) (by unfold maxLen; omega) (by omega) HZ5.out (by decide) ?_)
          intro v' w6 hown6 hgr6 hfr6
          obtain ⟨bp, bm, bc, rfl⟩ := own_slice hown6
          rw [HXX.out.1, HXX.out.2] at hown6
          have esz : (w2.alloc (.cells #[.string XN, .slice f.ap f.am f.ac, .string XT, .slice none 0 0] 40)).heap.size = w2.heap.size + 1 := by simp
          rw [← esz] at hfr6
          have hk : RAt w0 (w2.alloc (.cells #[.string XN, .slice f.ap f.am f.ac, .string XT, .slice none 0 0] 40)) w.heap.size (.slice none 0 0) nd.kids [] := by rw [HK0.out]; exact RAt.empty _ _ _
          obtain ⟨fp', m1, m2, m3⟩ := rall_more HAL.out HALL.out.2.1 HALL.out.2.2.2 hk List.nodup_nil (fun k hk => by cases hk) hown6 hgr6 hfr6
          have HO : Hid (Out w0 w6 w.heap.size (.slice bp bm bc) (d ++ [nd])) := hide ⟨_, fp', by rw [List.map_append, HALL.out.2.2.1]; rfl, m2, m1, m3⟩
          have HB6 := hide (HB5.out.grown hgr6 HZ5.out (fun j hj => (HRO.out.lt j hj).1))
          have HV6 := hide (HNEXT.out _ _ HO.out)
          clear esz hown6 hgr6 hfr6 hk m1 m2 m3 HO HNEXT HALL HAL HRO HZ5 HB5 HXX HK0 HB2
          go_wp2_with fail
          go_roundg (gk - 1)
          case measure => omega
          case rel => exact ⟨i + 1, by omega, by omega, by first | rfl | simp, ⟨_, _, _, rfl⟩, HV6, HB6⟩
        · rw [decide_eq_false hnm] at q0
          have HC := hide (HREC.out hnm w2 HF2.out)
          have y0 : w2.cell? ⟨Nb, 0, none⟩ = some (.string XN) := tag_cell HBOX.out 0 _ rfl
          clear hkids0 hnm HREC
          go_upto_region 7 with fail
          rw [← hw2, ← HNb.out]
          clear hw2 HNb x0 x1 x2 x3
          go_wp2_with fail
          refine HC.out.mono ?_
          rintro e w3 ⟨kq, km, kc, f2, rfl, hra, hf2, hb3⟩
          have box3 : w3.heap[Nb]? = some (.cells #[.string XN, .slice f.ap f.am f.ac, .string XT, .slice none 0 0] 40 (0, 0)) := (hb3.block Nb hs2).trans HBOX.out
          have z0 : w3.cell? ⟨Nb, 0, none⟩ = some (.string XN) := tag_cell box3 0 _ rfl
          have z1 : w3.cell? ⟨Nb, 1, none⟩ = some (.slice f.ap f.am f.ac) := tag_cell box3 1 _ rfl
          have z2 : w3.cell? ⟨Nb, 2, none⟩ = some (.string XT) := tag_cell box3 2 _ rfl
          have z3 : w3.cell? ⟨Nb, 3, none⟩ = some (.slice none 0 0) := tag_cell box3 3 _ rfl
          have zf := tag_free box3 3
          have hsz4 : (w3.setCell ⟨Nb, 3, none⟩ (.slice kq km kc)).heap.size = w3.heap.size := by simp
          have hS : ∀ k, k < w3.heap.size → k ∉ [Nb] → (w3.setCell ⟨Nb, 3, none⟩ (.slice kq km kc)).heap[k]? = w3.heap[k]? := fun k _ hk => Below.heap_setCell _ _ _ _ (by simpa using hk)
          have hal : Below (w3.setCell ⟨Nb, 3, none⟩ (.slice kq km kc)).heap.size (w3.setCell ⟨Nb, 3, none⟩ (.slice kq km kc)) ((w3.setCell ⟨Nb, 3, none⟩ (.slice kq km kc)).alloc (.cells #[.string XN, .slice f.ap f.am f.ac, .string XT, .slice kq km kc] 40)) := (Below.refl _ _).alloc (Nat.le_refl _) _
          have hz3 : w.heap.size ≤ w3.heap.size := Nat.le_trans HB2.out.size hb3.size
          have HRO := hide (own_below (own_stays (own_below HRO2.out hb3) hS (fun k hk hm => by
            have h1 := (HLT.out.2 k (by unfold blk; rw [hk]; simp)).2
            have h2 : k = Nb := by simpa using hm
            omega)) hal)
          have HAL := hide (((HALL.out.1.under hb3).stays hS (fun k hk hm => by
            have h1 := (HLT.out.1 k hk).2
            have h2 : k = Nb := by simpa using hm
            omega)).under hal)
          have hk := ((hra.stays hS (fun k hk hm => by
            have h1 := (hra.lt k hk).1
            have h2 : k = Nb := by simpa using hm
            omega)).under hal).low HB2.out.size
          have hdis : ∀ k ∈ f2, k ∉ blk (.slice oq l.length oc) ++ fp := by
            intro k hk' hm
            have h1 := (hra.lt k hk').1
            rcases List.mem_append.1 hm with h | h
            · have := (HLT.out.2 k h).2
              omega
            · have := (HLT.out.1 k h).2
              omega
          have HZ5 : Hid (w.heap.size ≤ ((w3.setCell ⟨Nb, 3, none⟩ (.slice kq km kc)).alloc (.cells #[.string XN, .slice f.ap f.am f.ac, .string XT, .slice kq km kc] 40)).heap.size) := hide (by have := hal.size; rw [hsz4] at this; omega)
          have HB5 := hide (((HB2.out.trans (hb3.mono HB2.out.size)).setCell (p := ⟨Nb, 3, none⟩) hwz (.slice kq km kc)).alloc (by rw [hsz4]; exact hz3) (.cells #[.string XN, .slice f.ap f.am f.ac, .string XT, .slice kq km kc] 40))
          have hnews := five_newA (w3.setCell ⟨Nb, 3, none⟩ (.slice kq km kc)) #[.string XN, .slice f.ap f.am f.ac, .string XT, .slice kq km kc] 40
          rw [hsz4] at hnews
          have HNEWS := hide hnews
          have HK := hide (And.intro hk (And.intro hf2 hdis))
          have HSZ4 := hide hsz4
          clear hal hk hf2 hdis hra hb3 hnews HRO2 box3 hS HC HF2 HBOX HLT y0 hsz4
          go_wp2_with (at_builtin; refine wpList_append_new rfl (.tmp 44) (.tmp 46) 25 rfl w.heap.size 40 i0 _ 4 80 Try.underlying25 hi hz0 hz1 hz2 rfl (by decide) (.slice oq l.length oc) l.length (ndCells l) rfl HRO.out ⟨w3.heap.size, 0, none⟩ 1 1 [.string XN, .slice f.ap f.am f.ac, .string XT, .slice kq km kc] rfl rfl HNEWS.out (node_one _ _ _ _ _ _ _ _) (by unfold maxLen; omega) (by omega) HZ5.out (by decide) ?_)
          intro v' w6 hown6 hgr6 hfr6
          obtain ⟨bp, bm, bc, rfl⟩ := own_slice hown6
          rw [HXX.out.1, HXX.out.2] at hown6
          have hfr7 : (Value.slice bp bm bc).ownBlock = (Value.slice oq l.length oc).ownBlock ∨ (Value.slice bp bm bc).ownBlock = some ((w3.setCell ⟨Nb, 3, none⟩ (.slice kq km kc)).alloc (.cells #[.string XN, .slice f.ap f.am f.ac, .string XT, .slice kq km kc] 40)).heap.size := by
            have e : ((w3.setCell ⟨Nb, 3, none⟩ (.slice kq km kc)).alloc (.cells #[.string XN, .slice f.ap f.am f.ac, .string XT, .slice kq km kc] 40)).heap.size = w3.heap.size + 1 := by simp
            rw [e]
            simpa using hfr6
          obtain ⟨fp', m1, m2, m3⟩ := rall_more HAL.out HALL.out.2.1 HALL.out.2.2.2 HK.out.1 HK.out.2.1 HK.out.2.2 hown6 hgr6 hfr7
          have HO : Hid (Out w0 w6 w.heap.size (.slice bp bm bc) (d ++ [nd])) := hide ⟨_, fp', by rw [List.map_append, HALL.out.2.2.1]; rfl, m2, m1, m3⟩
          have HB6 := hide (HB5.out.grown hgr6 HZ5.out (fun j hj => (HRO.out.lt j hj).1))
          have HV6 := hide (HNEXT.out _ _ HO.out)
          clear hown6 hgr6 hfr6 hfr7 m1 m2 m3 HO HNEXT HALL HAL HRO HZ5 HB5 HXX HK HB2 HNEWS HSZ4 z0 z1 z2 z3 zf
          go_wp2_with fail
          go_roundg (gk - 1)
          case measure => omega
          case rel => exact ⟨i + 1, by omega, by omega, by first | rfl | simp, ⟨_, _, _, rfl⟩, HV6, HB6⟩
    · have hd : decide ((i : Int) < (N : Int)) = false := decide_eq_false (by omega)
      have HE : Hid (∃ fp, RAt w0 wr w.heap.size (.slice oq om oc) ns fp ∧ fp.Nodup) := hide (by
        obtain ⟨d, rest, skip, post', P, e1, ⟨l, fp, h1, h2, h3, h4⟩, e3, e4, e5, e6, e7, e8⟩ := HV.out
        have hlen := congrArg List.length e3
        rw [List.length_map, ← HN.out, List.length_append, List.length_append, List.length_append, flatL_len, e4] at hlen
        have hr : rest = [] := by
          cases rest with
          | nil => rfl
          | cons a b =>
            have := cntN_kids a
            rw [cntL] at hlen
            omega
        rw [hr, List.append_nil] at e1
        rw [e1, ← h1]
        exact ⟨_, RAt.mk _ l fp h2 h3, h4⟩)
      clear hfr hR hread HV
      go_wp2_with fail
      try rw [Exit.noGoto_ret]
      go_ret
      obtain ⟨fp, h1, h2⟩ := HE.out
      exact ⟨_, _, _, fp, rfl, h1, h2, HB.out⟩
end Go.Proofs.Ytkdppcpkigpmdaa
