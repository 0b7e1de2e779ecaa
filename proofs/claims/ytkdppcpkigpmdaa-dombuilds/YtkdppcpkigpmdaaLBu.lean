import Derived.Test.YtkdppcpkigpmdaaH2
import Derived.Test.YtkdppcpkigpmdaaOTok
import Derived.Test.YtkdppcpkigpmdaaRK
import Derived.BigQuiet

/-
  Tokens that came in: what the laws' functions and Build do with them.
-/
namespace Go.Proofs.Ytkdppcpkigpmdaa
open Go.RowKit
open Utf1

/-- Tokens that came in. -/
def TokArg (w : World) (v : Value) (l : List Te) : Prop := TokRow w v l ∧ l.length ≤ maxLen ∧ ∀ e ∈ l, AttrRow w e.2.1.1 e.2.1.2.1 e.1.attrs ∧ e.1.name.length ≤ maxLen ∧ e.1.text.length ≤ maxLen ∧ e.2.1.2.1 ≤ maxLen
theorem AttrRow.below {w w' : World} {p : Option Addr} {m : Nat} {at' : List (List UInt8 × List UInt8)} (h : AttrRow w p m at') (hb : Below w.heap.size w w') : AttrRow w' p m at' := by
  refine ⟨h.1, ?_⟩
  intro i kv hi
  obtain ⟨b, off, hp, x0, x1, h2⟩ := h.2 i kv hi
  exact ⟨b, off, hp, cell_keep x0 hb, cell_keep x1 hb, h2⟩
theorem TokArg.below {w w' : World} {v : Value} {l : List Te} (h : TokArg w v l) (hb : Below w.heap.size w w') : TokArg w' v l :=
  ⟨tokrow_below h.1 hb, h.2.1, fun e he => ⟨(h.2.2 e he).1.below hb, (h.2.2 e he).2⟩⟩
theorem light_arg {w : World} {v : Value} {l : List Te} (h : TokArg w v l) : Calls Try.prog 9 #[v] w fun e w' => e = .returned (.bool (decide (tokWs l < 6000))) ∧ Below w.heap.size w w' := light_st w v l h.1 (fun e he => (h.2.2 e he).2) h.2.1
theorem named_arg {w : World} {v : Value} {l : List Te} (h : TokArg w v l) : Calls Try.prog 10 #[v] w fun e w' => ∃ b : Bool, e = .returned (.bool b) ∧ (b = true → ∀ e ∈ l, e.1.kind = 2 → e.1.name ≠ []) ∧ w' = w := named_st w v l h.1 h.2.1
theorem build_arg {w : World} {v : Value} {l : List Te} (h : TokArg w v l) (hw : tokWs l < 6000) : Calls Try.prog 11 #[v] w fun e w' => ∃ r, e = .returned (.tuple #[r, .int .i64 (if (buildB (l.map Prod.fst)).isSome then 0 else 5)]) ∧ (∃ fp, KAt w' w.heap.size r ((buildB (l.map Prod.fst)).getD []) fp) ∧ Below w.heap.size w w' := by
  obtain ⟨f1, f2, f3⟩ := light_facts l hw
  refine (build_st w v l h.1 (by omega) (by omega) (fun e he => by have := (f3 e he).1; omega) ?_).mono ?_
  · intro e he
    exact clones_any w _ _ _ _ (h.2.2 e he).1 (by have := (f3 e he).2; omega)
  · rintro e w' ⟨r, err, rfl, hE, hb⟩
    obtain ⟨fp, hk, rfl⟩ := hE.got
    exact ⟨r, rfl, ⟨fp, hk⟩, hb⟩
end Go.Proofs.Ytkdppcpkigpmdaa

/-
  The document's Build.
-/
namespace Go.Proofs.Ytkdppcpkigpmdaa
open Go.RowKit
open Utf1

theorem tree_flat {s : Bs} {fl : List Fl} {op : List Nat} (h : Rel s.r s.t fl op) (hg : Good s) : fl.map Fl.fa = flatL (treeB s) (-1) 0 := by
  have hpos : 0 < s.r.length := List.length_pos_iff.2 hg.ne
  have hr := rel_shut (s.r.length - 1) s.r s.t fl op (by omega) h
  have gs := shut_good hg (Nat.le_refl 1) hpos
  obtain ⟨nd, hnd⟩ := List.length_eq_one_iff.1 gs.2.2
  have hr : Rel (shutB 1 s).r (shutB 1 s).t fl _ := hr
  unfold treeB
  rw [hnd] at hr ⊢
  exact hr.fl
theorem new_fb (w : World) : FBs (w.alloc (.cells #[.slice none 0 0, .slice none 0 0, .bool false] 57)) w.heap.size w.heap.size ⟨[], [], false⟩ := ⟨Nat.le_refl _, by simp, .slice none 0 0, .slice none 0 0, heap_alloc_new _ _, World.ownsRow_nil _ _ _ _, World.ownsRow_nil _ _ _ _⟩
theorem rel0 : Rel bs0.r bs0.t [] [] := ⟨rfl, rfl⟩

/-- How far the document's builder is. -/
def Far (w wr : World) (R : Nat) (l rest : List Te) : Prop :=
  (∃ (s : Bs) (u : Fs), FBs wr R R u ∧ Rel s.r s.t u.fl u.op ∧ u.bad = false ∧ Good s ∧ Fi (s.o + 1) s.r ∧ s.o ≤ 64 ∧ s.n ≤ 2000 ∧ s.t.length + textSum rest ≤ 6000 ∧ AttrsOk w u.fl ∧ runB (l.map Prod.fst) bs0 = runB (rest.map Prod.fst) s) ∨ (∃ u : Fs, FBs wr R R u ∧ u.bad = true ∧ buildB (l.map Prod.fst) = none)

set_option maxRecDepth 100000 in
set_option maxHeartbeats 8000000 in
theorem rbuild_st (w : World) (v : Value) (l : List Te) (hl : TokArg w v l) (hw : tokWs l < 6000) (hnm : ∀ e ∈ l, e.1.kind = 2 → e.1.name ≠ []) :
    Calls Try.prog 12 #[v] w fun e w' => ∃ q m c, e = .returned (.tuple #[.slice q m c, .int .i64 (if (buildB (l.map Prod.fst)).isSome then 0 else 5)]) ∧ (∃ fp, RAt w w' w.heap.size (.slice q m c) ((buildB (l.map Prod.fst)).getD []) fp) ∧ Below w.heap.size w w' := by
  obtain ⟨p, c, rfl, hcell⟩ := id hl.1
  obtain ⟨f1, f2, f3⟩ := light_facts l hw
  have HC := hide hcell
  have HA := hide (fun e he => (hl.2.2 e he).1)
  have HNM := hide hnm
  obtain ⟨R, hR⟩ : ∃ R, R = w.heap.size := ⟨_, rfl⟩
  obtain ⟨w1, hw1⟩ : ∃ w1, w1 = w.alloc (.cells #[.slice none 0 0, .slice none 0 0, .bool false] 57) := ⟨_, rfl⟩
  have HF1 := hide (new_fb w)
  rw [← hw1, ← hR] at HF1
  have HB1 : Hid (Below w.heap.size w w1) := hide (by rw [hw1]; exact (Below.refl _ _).alloc (Nat.le_refl _) _)
  obtain ⟨N, hN⟩ : ∃ N, N = l.length := ⟨_, rfl⟩
  rw [← hN] at f1 ⊢
  obtain ⟨E, hE⟩ : ∃ E : Int, E = if (buildB (l.map Prod.fst)).isSome then 0 else 5 := ⟨_, rfl⟩
  rw [← hE]
  obtain ⟨T, hT⟩ : ∃ T, T = (buildB (l.map Prod.fst)).getD [] := ⟨_, rfl⟩
  rw [← hT]
  have HE := hide (And.intro hE hT)
  have HN := hide hN
  have HR := hide hR
  have HFAR : Hid (Far w w1 R l l) := hide (.inl ⟨bs0, ⟨[], [], false⟩, HF1.out, rel0, rfl, good0, fi0, by decide, by decide, by show 0 + textSum l ≤ 6000; omega, (fun f hf => by cases hf), rfl⟩)
  clear hcell hl hw hnm hN hE hT f2 f3 HF1
  go_enter Try.func12, Try.ntmps12
  go_wp2_with fail
  rw [← hw1, ← hR]
  clear hw1 hR
  go_loopg [5] N (fun k v5 wr => ∃ (j : Nat) (rest : List Te), rest.length = k ∧ v5 = .int .i64 (j : Int) ∧ j + k = N ∧ Hid (∃ d, l = d ++ rest ∧ d.length = j) ∧ Hid (Far w wr R l rest) ∧ Hid (Below w.heap.size w wr))
  case atStart => exact ⟨0, l, HN.out.symm, rfl, by omega, hide ⟨[], rfl, rfl⟩, HFAR, HB1⟩
  case round =>
    obtain ⟨j, rest, rfl, rfl, hjk, HD, HFA, HB⟩ := hrel
    clear HFAR HB1
    rcases HFA.out with ⟨s, u, g1, g2, g3, g4, g5, g6, g7, g8, g9, g10⟩ | ⟨u, g1, g2, g3⟩
    case inr =>
      obtain ⟨lp, lc, pp, pc, hRB, -, -⟩ := FB.reads g1
      have c2 : wr.cell? ⟨R, 2, none⟩ = some (.bool u.bad) := tag_cell hRB 2 _ rfl
      rw [g2] at c2
      have hE5 : E = 5 ∧ T = [] := by
        rw [HE.out.1, HE.out.2, g3]
        exact ⟨rfl, rfl⟩
      obtain ⟨rfl, rfl⟩ := hE5
      clear hRB g1 g2 g3 HFA HE HC HA HNM
      by_cases hj : j < N
      · have hd : decide ((j : Int) < (N : Int)) = true := decide_eq_true (by omega)
        go_wp2_with fail
        try rw [Exit.noGoto_ret]
        go_ret2
        exact ⟨_, _, _, rfl, ⟨[], RAt.empty _ _ _⟩, HB.out⟩
      · have hd : decide ((j : Int) < (N : Int)) = false := decide_eq_false (by omega)
        go_wp2_with fail
        try rw [Exit.noGoto_ret]
        go_ret2
        exact ⟨_, _, _, rfl, ⟨[], RAt.empty _ _ _⟩, HB.out⟩
    case inl =>
      obtain ⟨lp, lc, pp, pc, hRB, -, -⟩ := FB.reads g1
      have c2 : wr.cell? ⟨R, 2, none⟩ = some (.bool u.bad) := tag_cell hRB 2 _ rfl
      rw [g3] at c2
      clear hRB
      match rest, hjk, HD, g8, g10 with
      | [], hjk, HD, g8, g10 =>
        simp only [List.length_nil, Nat.add_zero] at hjk
        have hnj : ¬ ((j : Int) < (N : Int)) := by omega
        have hd : decide ((j : Int) < (N : Int)) = false := decide_eq_false hnj
        have hbu : buildB (l.map Prod.fst) = some (treeB s) := by
          unfold buildB
          rw [g10]
          rfl
        have hE0 : E = 0 ∧ T = treeB s := by
          rw [HE.out.1, HE.out.2, hbu]
          exact ⟨rfl, rfl⟩
        obtain ⟨rfl, rfl⟩ := hE0
        have hfi := (build_fine hbu).1
        have hlen := rel_len g2 g4.ne
        have hcnt := g4.cnt
        have HK := hide (kids_st w R R u g9 (by omega) _ wr (treeB s) (-1) 0 [] [] false false false (Nat.le_refl _) g1 (by rw [tree_flat g2 g4]; simp) rfl (by decide) (fun f hf => by cases hf) hfi)
        have hwz : w.heap.size ≤ wr.heap.size := HB.out.size
        clear g1 g2 g3 g4 g5 g6 g7 g8 g9 g10 HFA HE HC HA HNM hfi hlen hcnt hbu
        go_wp2_with fail
        refine HK.out.mono ?_
        rintro e w2 ⟨q, m, cc, fp, rfl, m1, m2, m3⟩
        have HEE := hide (And.intro (m1.low hwz) (HB.out.trans (m3.mono hwz)))
        clear m1 m2 m3 HK HB
        go_wp2_with fail
        try rw [Exit.noGoto_ret]
        go_ret2
        exact ⟨q, m, cc, rfl, ⟨fp, HEE.out.1⟩, HEE.out.2⟩
      | e :: rest, hjk, HD, g8, g10 =>
        have hjN : j < N := by simp only [List.length_cons] at hjk; omega
        have hd : decide ((j : Int) < (N : Int)) = true := decide_eq_true (by omega)
        have hge : l[j]? = some e := by
          obtain ⟨d, e1, e2⟩ := HD.out
          rw [e1, ← e2, List.getElem?_append_right (Nat.le_refl _), Nat.sub_self]
          rfl
        have hmem : e ∈ l := List.mem_of_getElem? hge
        obtain ⟨g, off, hp, x0, x1, x2, x3, x4⟩ := HC.out j e hge
        subst hp
        have hatt := HA.out e hmem
        have hnme := HNM.out e hmem
        obtain ⟨⟨kind, name, attrs, text⟩, ⟨ap, am, ac⟩, cl⟩ := e
        simp only [] at x0 x1 x2 x3 x4 hatt hnme
        have hgt : s.t.length + (text.length + textSum rest) ≤ 6000 := g8
        replace x0 := cell_keep x0 HB.out
        replace x1 := cell_keep x1 HB.out
        replace x2 := cell_keep x2 HB.out
        replace x3 := cell_keep x3 HB.out
        replace x4 := cell_keep x4 HB.out
        obtain ⟨XN, hXN⟩ : ∃ X : ByteArray, X = ⟨name.toArray⟩ := ⟨_, rfl⟩
        obtain ⟨XT, hXT⟩ : ∃ X : ByteArray, X = ⟨text.toArray⟩ := ⟨_, rfl⟩
        have hbn : bl XN = name := by rw [hXN]
        have hbt : bl XT = text := by rw [hXT]
        have hst : XT.size = text.length := by rw [hXT]; rfl
        rw [← hXN] at x1
        rw [← hXT] at x4
        have HTK := hide (rtake_sim w wr R R s u kind XN XT cl ap am ac attrs g1 g2 g3 g4 g5 g6 g7 (by omega) (fun h => by rw [hbn]; exact hnme h) hatt g9)
        rw [hbn, hbt] at HTK
        have HTG := hide (take_good g4 ⟨kind, name, attrs, text⟩)
        have HTF := hide (take_fi g4 ⟨kind, name, attrs, text⟩ g5 g6)
        have HST := hide (fun hh => build_step g10 hh)
        have HNO := hide (fun hh => build_none g10 hh)
        simp only [] at HST HNO
        obtain ⟨s2, hs2⟩ : ∃ s2, s2 = takeB ⟨kind, name, attrs, text⟩ s := ⟨_, rfl⟩
        rw [← hs2] at HTK HTG HTF HST HNO
        have HT2 : Hid (s2.t.length + textSum rest ≤ 6000) := hide (by have := HTG.out.2; simp only [] at this; omega)
        have HD2 : Hid (∃ d, l = d ++ rest ∧ d.length = j + 1) := hide (by
          obtain ⟨d, e1, e2⟩ := HD.out
          exact ⟨d ++ [(⟨kind, name, attrs, text⟩, (ap, am, ac), cl)], by rw [e1]; simp, by simp [e2]⟩)
        have HRW : Hid (w.heap.size ≤ R) := hide (by rw [HR.out]; exact Nat.le_refl _)
        have hjk2 : j + (rest.length + 1) = N := hjk
        clear g1 g2 g3 g4 g5 g6 g7 g8 g9 g10 HFA hatt hnme hmem hge HD hXN hXT hbn hbt hst hgt hs2 hjk
        go_wp2_with fail
        refine HTK.out.mono ?_
        rintro e w3 ⟨rfl, ⟨u', m1, m2, m3, m4⟩, m5⟩
        have HF3 : Hid (Far w w3 R l rest) := hide (by
          by_cases hcap : s2.o ≤ 64 ∧ s2.n ≤ 2000
          · left
            exact ⟨s2, u', m1, m2, by rw [m3]; exact decide_eq_false (fun h => h hcap), HTG.out.1, HTF.out, hcap.1, hcap.2, HT2.out, m4, HST.out hcap⟩
          · right
            exact ⟨u', m1, by rw [m3]; exact decide_eq_true hcap, HNO.out hcap⟩)
        have HB3 := hide (HB.out.trans (m5.b.mono HRW.out))
        clear m1 m2 m3 m4 m5 HTK HTG HTF HST HNO HT2 HB HRW x0 x1 x2 x3 x4 c2
        go_wp2_with fail
        go_roundg rest.length
        case measure => simp only [List.length_cons]; omega
        case rel => exact ⟨j + 1, rest, rfl, by first | rfl | simp, by omega, HD2, HF3, HB3⟩
end Go.Proofs.Ytkdppcpkigpmdaa

/-
  The document's Same, at the program's tree and at the document's.
-/
namespace Go.Proofs.Ytkdppcpkigpmdaa
open Go.RowKit
open Utf1

theorem attr_two4 : ∀ (l : List (List UInt8 × List UInt8)) (i : Nat) (p : List UInt8 × List UInt8), l[i]? = some p → (attrCells l)[i * 2]? = some (.string ⟨p.1.toArray⟩) ∧ (attrCells l)[i * 2 + 1]? = some (.string ⟨p.2.toArray⟩)
  | [], i, p, h => by simp at h
  | q :: r, 0, p, h => by
    have : q = p := by simpa using h
    subst this
    exact ⟨rfl, rfl⟩
  | q :: r, i + 1, p, h => by
    have h' : r[i]? = some p := by simpa using h
    rw [show (i + 1) * 2 = i * 2 + 1 + 1 by omega]
    exact attr_two4 r i p h'

theorem rat_inv {w0 w : World} {base : Nat} {v : Value} {ns : List Nd} {fp : List Nat} (h : RAt w0 w base v ns fp) : ∃ l f, ns = l.map Prod.fst ∧ fp = blk v ++ f ∧ w.ownsRow base 40 4 v l.length (ndCells l) ∧ RAll w0 w base l f := by
  cases h with
  | mk v l fp row all => exact ⟨l, fp, rfl, rfl, row, all⟩
theorem rall_at {w0 w : World} {base : Nat} : ∀ {l : List (Nd × Value × Value)} {fp : List Nat}, RAll w0 w base l fp → ∀ (i : Nat) (q : Nd × Value × Value), l[i]? = some q → ∃ p m c f, q.2.1 = .slice p m c ∧ AttrRow w0 p m q.1.attrs ∧ RAt w0 w base q.2.2 q.1.kids f
  | _, _, .nil, i, q, h => by simp at h
  | _, _, .cons n p m c kv l fp fps ha hk hl, 0, q, h => by
    have : (n, Value.slice p m c, kv) = q := by simpa using h
    subst this
    exact ⟨p, m, c, fp, rfl, ha, hk⟩
  | _, _, .cons n p m c kv l fp fps ha hk hl, i + 1, q, h => rall_at hl i q (by simpa using h)
/-- What is read of a node of a row. -/
theorem rat_node {w0 w : World} {base : Nat} {v : Value} {ns : List Nd} {fp : List Nat} (h : RAt w0 w base v ns fp) : ∃ p c, v = .slice p ns.length c ∧ ∀ i nd, ns[i]? = some nd → ∃ g ap am ac kp km kc f, p = some ⟨g, 0, none⟩ ∧ w.cell? ⟨g, i * 4, none⟩ = some (.string ⟨nd.name.toArray⟩) ∧ w.cell? ⟨g, i * 4 + 1, none⟩ = some (.slice ap am ac) ∧ w.cell? ⟨g, i * 4 + 2, none⟩ = some (.string ⟨nd.text.toArray⟩) ∧ w.cell? ⟨g, i * 4 + 3, none⟩ = some (.slice kp km kc) ∧ RAt w0 w base (.slice kp km kc) nd.kids f ∧ AttrRow w0 ap am nd.attrs := by
  obtain ⟨l, f, rfl, rfl, hro, hall⟩ := rat_inv h
  obtain ⟨p, c, rfl⟩ := own_len hro
  refine ⟨p, c, by rw [List.length_map], ?_⟩
  intro i nd hi
  rw [List.getElem?_map] at hi
  cases hp : l[i]? with
  | none => rw [hp] at hi; cases hi
  | some q =>
    rw [hp] at hi
    have e : q.1 = nd := by simpa using hi
    have hil : i < l.length := (List.getElem?_eq_some_iff.1 hp).1
    obtain ⟨g, cap, e2, hcell⟩ := own_at hro (by omega)
    cases e2
    obtain ⟨ap, am, ac, f2, hq, ha, hk⟩ := rall_at hall i q hp
    obtain ⟨nd', av, kv⟩ := q
    subst e
    have hq : av = .slice ap am ac := hq
    subst hq
    have hk : RAt w0 w base kv nd'.kids f2 := hk
    obtain ⟨k, fk, _, _, hrk, _⟩ := rat_inv hk
    obtain ⟨kp, km, kc, rfl⟩ := own_slice hrk
    have hat := fun j hj => (hcell (i * 4 + j) (by omega)).trans (ndCells_at l i _ hp j hj)
    exact ⟨g, ap, am, ac, kp, km, kc, f2, rfl, hat 0 (by decide), hat 1 (by decide), hat 2 (by decide), hat 3 (by decide), hk, ha⟩

set_option maxHeartbeats 4000000 in
theorem sameAttrs_row (al : List (List UInt8 × List UInt8)) (w : World) (b1 : Nat) (va : Value) (pb : Option Addr) (mb cb : Nat) (ha : w.ownsRow b1 71 2 va al.length (attrCells al)) (hb : AttrRow w pb mb al) :
    Calls Try.prog 27 #[va, .slice pb mb cb] w fun e w' => e = .returned (.bool true) ∧ ∃ n, w' = w.drewN n := by
  have hmax := own_most ha
  have HA : Hid (∀ i, i < al.length → ∃ g1 c1 g2 off, va = .slice (some ⟨g1, 0, none⟩) al.length c1 ∧ pb = some ⟨g2, off, none⟩ ∧ ∃ X Y : ByteArray, w.cell? ⟨g1, i * 2, none⟩ = some (.string X) ∧ w.cell? ⟨g1, i * 2 + 1, none⟩ = some (.string Y) ∧ w.cell? ⟨g2, off + i * 2, none⟩ = some (.string X) ∧ w.cell? ⟨g2, off + i * 2 + 1, none⟩ = some (.string Y)) := hide (by
    intro i hi
    obtain ⟨g1, c1, e1, k1⟩ := own_at ha (by omega)
    have hg := List.getElem?_eq_getElem hi
    obtain ⟨g2, off, e2, k2, k3, -⟩ := hb.2 i _ hg
    have h := attr_two4 al i _ hg
    exact ⟨g1, c1, g2, off, e1, e2, _, _, (k1 _ (by omega)).trans h.1, (k1 _ (by omega)).trans h.2, k2, k3⟩)
  obtain ⟨pa, ca, rfl⟩ := own_len ha
  obtain rfl := hb.1
  clear ha hb
  generalize al.length = n at hmax HA
  go_enter Try.func27, Try.ntmps27
  go_wp2_with fail
  go_loopg [5] n (fun g v wr => ∃ i k : Nat, i + g = n ∧ v = .int .i64 (i : Int) ∧ wr = w.drewN k)
  case atStart => exact ⟨0, 0, by omega, rfl, rfl⟩
  case round =>
    obtain ⟨i, k, hig, rfl, rfl⟩ := hrel
    by_cases hlt : i < n
    · obtain ⟨g1, c1, g2, off, e1, e2, X, Y, k1, k2, k3, k4⟩ := HA.out i hlt
      injection e1 with e1 _ e3
      subst e1 e2 e3
      have k1 : (w.drewN k).cell? ⟨g1, i * 2, none⟩ = some (.string X) := k1
      have k2 : (w.drewN k).cell? ⟨g1, i * 2 + 1, none⟩ = some (.string Y) := k2
      have k3 : (w.drewN k).cell? ⟨g2, off + i * 2, none⟩ = some (.string X) := k3
      have k4 : (w.drewN k).cell? ⟨g2, off + i * 2 + 1, none⟩ = some (.string Y) := k4
      go_wp2_with fail
      go_region
      all_goals (go_wp2_with fail; go_roundg (gk - 1))
      case measure => omega
      case rel => exact ⟨i + 1, k + 1, by omega, by first | rfl | (rw [wrap64_in _ ⟨by omega, by omega⟩]; rfl) | simp, rfl⟩
    · go_wp2_with fail
      go_ret
      exact ⟨rfl, k, rfl⟩

set_option maxRecDepth 100000 in
set_option maxHeartbeats 8000000 in
theorem same_tree (w0 w : World) (b1 b2 : Nat) (hb0 : Below w0.heap.size w0 w) : ∀ (M : Nat) (v1 v2 : Value) (ns : List Nd) (f1 f2 : List Nat), cntL ns ≤ M → KAt w b1 v1 ns f1 → RAt w0 w b2 v2 ns f2 →
    ∀ n, Calls Try.prog 13 #[v1, v2] (w.drewN n) fun e w' => e = .returned (.bool true) ∧ ∃ m, w' = (w.drewN n).drewN m := by
  intro M
  induction M using Nat.strongRecOn with
  | _ M ih =>
  intro v1 v2 ns f1 f2 hM hk hr n
  have hmax : ns.length ≤ 9223372036854775807 := by
    obtain ⟨l, f, rfl, _, hro, _⟩ := kat_inv hk
    rw [List.length_map]
    exact own_most hro
  obtain ⟨pa, ca, rfl, hn1⟩ := kat_node hk
  obtain ⟨pb, cb, rfl, hn2⟩ := rat_node hr
  have HA : Hid (∀ i, i < ns.length → ∃ g1 g2, pa = some ⟨g1, 0, none⟩ ∧ pb = some ⟨g2, 0, none⟩ ∧ ∃ (X : ByteArray) (p1 p2 : Option Addr) (m1 m2 d1 d2 : Nat) (Y : ByteArray) (q1 q2 : Option Addr) (k1 k2 c1 c2 : Nat),
      w.cell? ⟨g1, i * 4, none⟩ = some (.string X) ∧ w.cell? ⟨g1, i * 4 + 1, none⟩ = some (.slice p1 m1 d1) ∧ w.cell? ⟨g1, i * 4 + 2, none⟩ = some (.string Y) ∧ w.cell? ⟨g1, i * 4 + 3, none⟩ = some (.slice q1 k1 c1) ∧
      w.cell? ⟨g2, i * 4, none⟩ = some (.string X) ∧ w.cell? ⟨g2, i * 4 + 1, none⟩ = some (.slice p2 m2 d2) ∧ w.cell? ⟨g2, i * 4 + 2, none⟩ = some (.string Y) ∧ w.cell? ⟨g2, i * 4 + 3, none⟩ = some (.slice q2 k2 c2) ∧
      (∀ k n, Calls Try.prog 27 #[.slice p1 m1 d1, .slice p2 m2 d2] ((w.drewN k).drewN n) fun e w' => e = .returned (.bool true) ∧ ∃ m, w' = ((w.drewN k).drewN n).drewN m) ∧
      (∀ k n, Calls Try.prog 13 #[.slice q1 k1 c1, .slice q2 k2 c2] ((w.drewN k).drewN n) fun e w' => e = .returned (.bool true) ∧ ∃ m, w' = ((w.drewN k).drewN n).drewN m)) := hide (by
    intro i hi
    have hg := List.getElem?_eq_getElem hi
    generalize ns[i] = nd at hg
    obtain ⟨g1, p1, m1, d1, q1, k1, c1, fa, e1, x0, x1, x2, x3, hka, ho⟩ := hn1 i nd hg
    obtain ⟨g2, p2, m2, d2, q2, k2, c2, fb, e2, y0, y1, y2, y3, hra, ht⟩ := hn2 i nd hg
    refine ⟨g1, g2, e1, e2, _, p1, p2, m1, m2, d1, d2, _, q1, q2, k1, k2, c1, c2, x0, x1, x2, x3, y0, y1, y2, y3, ?_, ?_⟩
    · intro k n
      have hat := (ht.below hb0).below (bel2 (bel_drewN w k) (bel_drewN _ n))
      exact sameAttrs_row nd.attrs ((w.drewN k).drewN n) b1 _ p2 m2 d2 ho hat
    · intro k n
      have hc : cntL nd.kids < M := by
        have hmem : nd ∈ ns := List.mem_of_getElem? hg
        obtain ⟨a, b, rfl⟩ := List.append_of_mem hmem
        rw [cntL_app] at hM
        have e3 : cntL (nd :: b) = cntN nd + cntL b := rfl
        rw [e3, cntN_kids] at hM
        omega
      have := ih (cntL nd.kids) hc _ _ nd.kids fa fb (Nat.le_refl _) hka hra (k + n)
      rw [← World.drewN_drewN] at this
      exact this)
  clear hk hr hn1 hn2 ih hM
  generalize ns.length = N at hmax HA
  go_enter Try.func13, Try.ntmps13
  go_wp2_with fail
  go_loopg [5] N (fun g v wr => ∃ i : Nat, i + g = N ∧ v = .int .i64 (i : Int) ∧ Hid (∃ k, wr = (w.drewN n).drewN k))
  case atStart => exact ⟨0, by omega, rfl, hide ⟨0, rfl⟩⟩
  case round =>
    obtain ⟨i, hig, rfl, HK⟩ := hrel
    by_cases hlt : i < N
    · obtain ⟨g1, g2, e1, e2, X, p1, p2, m1, m2, d1, d2, Y, q1, q2, k1, k2, c1, c2, x0, x1, x2, x3, y0, y1, y2, y3, hsa, hsm⟩ := HA.out i hlt
      subst e1 e2
      have HC : Hid (∀ a v, w.cell? a = some v → wr.cell? a = some v) := hide (by
        obtain ⟨k, hk⟩ := HK.out
        rw [hk]
        exact fun a v h => h)
      have x0 := HC.out _ _ x0
      have x1 := HC.out _ _ x1
      have x2 := HC.out _ _ x2
      have x3 := HC.out _ _ x3
      have y0 := HC.out _ _ y0
      have y1 := HC.out _ _ y1
      have y2 := HC.out _ _ y2
      have y3 := HC.out _ _ y3
      have HSA : Hid (∀ n, Calls Try.prog 27 #[.slice p1 m1 d1, .slice p2 m2 d2] (wr.drewN n) fun e w' => e = .returned (.bool true) ∧ ∃ m, w' = (wr.drewN n).drewN m) := hide (by
        obtain ⟨k, hk⟩ := HK.out
        rw [hk, World.drewN_drewN]
        exact hsa _)
      have HSM : Hid (∀ n, Calls Try.prog 13 #[.slice q1 k1 c1, .slice q2 k2 c2] (wr.drewN n) fun e w' => e = .returned (.bool true) ∧ ∃ m, w' = (wr.drewN n).drewN m) := hide (by
        obtain ⟨k, hk⟩ := HK.out
        rw [hk, World.drewN_drewN]
        exact hsm _)
      clear hsa hsm HA HC
      go_wp2_with fail
      go_quiet (first | (go_at_call 27; exact Calls.quiet_of (HSA.out _)) | (go_at_call 13; exact Calls.quiet_of (HSM.out _)))
      go_wp2_with fail
      go_roundg (gk - 1)
      case measure => omega
      case rel =>
        refine ⟨i + 1, by omega, by first | rfl | (rw [wrap64_in _ ⟨by omega, by omega⟩]; rfl) | simp, hide ?_⟩
        obtain ⟨k, hk⟩ := HK.out
        rw [hk]
        exact ⟨_, World.drewN_drewN ..⟩
    · go_wp2_with fail
      go_ret
      exact ⟨rfl, HK.out⟩
end Go.Proofs.Ytkdppcpkigpmdaa

/-
  The law DomBuilds, walked: it answers true at every tokens.
-/
namespace Go.Proofs.Ytkdppcpkigpmdaa
open Go.RowKit
open Utf1

set_option maxRecDepth 100000 in
set_option maxHeartbeats 8000000 in
theorem lawBuilds_walk (v : Value) (l : List Te) (w : World) (hl : TokArg w v l) :
    Calls Try.prog 3 #[v] w fun e w' => e = .returned (.bool true) ∧ Below w.heap.size w w' := by
  obtain ⟨p, c, rfl, -⟩ := id hl.1
  have HL := hide hl
  obtain ⟨N, hN⟩ : ∃ N, N = l.length := ⟨_, rfl⟩
  rw [← hN] at HL ⊢
  clear hl hN
  go_enter Try.func3, Try.ntmps3
  go_wp2_with fail
  refine (awake_st _).mono ?_
  rintro e w1 ⟨rfl, hb1⟩
  have HL1 := hide (HL.out.below hb1)
  have HB1 := hide hb1
  clear hb1 HL
  go_wp2_with fail
  refine (light_arg HL1.out).mono ?_
  rintro e w2 ⟨rfl, hb2⟩
  have HL2 := hide (HL1.out.below hb2)
  have HB2 := hide (HB1.out.trans (hb2.mono HB1.out.size))
  clear hb2 HL1 HB1
  by_cases hw : tokWs l < 6000
  case neg =>
    rw [decide_eq_false hw]
    go_wp2_with fail
    refine (named_arg HL2.out).mono ?_
    rintro e w3 ⟨b, rfl, -, rfl⟩
    clear HL2
    cases b with
    | false =>
      go_wp2_with fail
      go_ret
      exact ⟨rfl, HB2.out⟩
    | true =>
      go_wp2_with fail
      go_ret
      exact ⟨rfl, HB2.out⟩
  rw [decide_eq_true hw]
  go_wp2_with fail
  refine (named_arg HL2.out).mono ?_
  rintro e w3 ⟨b, rfl, hnm, rfl⟩
  cases b with
  | false =>
    clear hnm
    go_wp2_with fail
    go_ret
    exact ⟨rfl, HB2.out⟩
  | true =>
    have HBU := hide (build_arg HL2.out hw)
    have HRB := hide (fun wx (hx : Below w3.heap.size w3 wx) => rbuild_st wx _ l (HL2.out.below hx) hw (hnm rfl))
    obtain ⟨ns, hns⟩ : ∃ ns, ns = (buildB (l.map Prod.fst)).getD [] := ⟨_, rfl⟩
    obtain ⟨E, hE⟩ : ∃ E : Int, E = if (buildB (l.map Prod.fst)).isSome then 0 else 5 := ⟨_, rfl⟩
    rw [← hns, ← hE] at HBU
    simp only [← hns, ← hE] at HRB
    have HBU : Hid (Calls Try.prog 11 #[.slice p N c] w3 fun e w' => ∃ p2 m2 c2, e = .returned (.tuple #[.slice p2 m2 c2, .int .i64 E]) ∧ (∃ fp, KAt w' w3.heap.size (.slice p2 m2 c2) ns fp) ∧ Below w3.heap.size w3 w') := hide (by
      refine HBU.out.mono ?_
      rintro e w' ⟨r, rfl, ⟨fp, hk⟩, hb⟩
      obtain ⟨p2, c2, rfl, -⟩ := kat_node hk
      exact ⟨_, _, _, rfl, ⟨fp, hk⟩, hb⟩)
    have HEE : Hid (E = 0 ∨ E = 5) := hide (by
      rw [hE]
      cases (buildB (l.map Prod.fst)).isSome with
      | true => exact .inl rfl
      | false => exact .inr rfl)
    clear hns hE HL2 hw hnm
    go_wp2_with fail
    refine HBU.out.mono ?_
    rintro e w4 ⟨p2, m2, c2, rfl, ⟨fp, hk⟩, hb4⟩
    have HK := hide hk
    have HR4 := hide (HRB.out w4 hb4)
    have HB4 := hide (HB2.out.trans (hb4.mono HB2.out.size))
    clear hb4 hk HBU HB2 HRB
    go_wp2_with fail
    refine HR4.out.mono ?_
    rintro e w5 ⟨p3, m3, c3, rfl, ⟨fq, hr⟩, hb5⟩
    have HS := hide (same_tree w4 w5 _ _ hb5 _ _ _ ns _ _ (Nat.le_refl _) (HK.out.under hb5) hr 0)
    have HB5 := hide (HB4.out.trans (hb5.mono HB4.out.size))
    clear hb5 HK HR4 HB4 hr
    go_wp2_with fail
    refine HS.out.mono ?_
    rintro e w6 ⟨rfl, n, rfl⟩
    have HB6 : Hid (Below w.heap.size w ((w5.drewN 0).drewN n)) := hide (bel2 HB5.out (bel2 (bel_drewN w5 0) (bel_drewN _ n)))
    clear HS HB5
    rcases HEE.out with rfl | rfl
    · go_wp2_with fail
      go_ret
      exact ⟨rfl, HB6.out⟩
    · go_wp2_with fail
      go_ret
      exact ⟨rfl, HB6.out⟩
end Go.Proofs.Ytkdppcpkigpmdaa
