/-
  The document's builder in memory: here, inner, close.
-/
import Derived.Test.YtkdppcpkigpmdaaG32
import Derived.BigQuiet
namespace Go.Proofs.Ytkdppcpkigpmdaa
open Go.RowKit
open Utf1

/-- A node of the document's builder, with the slice of its attributes. -/
structure Fl where
  name : List UInt8
  attrs : List (List UInt8 × List UInt8)
  text : List UInt8
  up : Int
  ap : Option Addr
  am : Nat
  ac : Nat
def flCells1 (f : Fl) : List Value := [.string ⟨f.name.toArray⟩, .slice f.ap f.am f.ac, .string ⟨f.text.toArray⟩, .slice none 0 0, .int .i64 f.up]
def flCells : List Fl → List Value
  | [] => []
  | f :: r => flCells1 f ++ flCells r
theorem flCells_len : ∀ l, (flCells l).length = l.length * 5
  | [] => rfl
  | p :: r => by
    simp only [flCells, List.length_append, flCells_len r, flCells1, List.length_cons, List.length_nil]
    omega
theorem flCells_app : ∀ a b, flCells (a ++ b) = flCells a ++ flCells b
  | [], _ => rfl
  | p :: r, b => by simp only [flCells, List.cons_append, flCells_app r b, List.append_assoc]
theorem flCells_at : ∀ (l : List Fl) (i : Nat) (e : Fl), l[i]? = some e → ∀ j, j < 5 → (flCells l)[i * 5 + j]? = (flCells1 e)[j]?
  | [], i, p, h, _, _ => by simp at h
  | q :: r, 0, p, h, j, hj => by
    have : q = p := by simpa using h
    subst this
    show (flCells1 q ++ flCells r)[0 * 5 + j]? = _
    rw [show 0 * 5 + j = j by omega, List.getElem?_append_left (by simp [flCells1]; omega)]
  | q :: r, i + 1, p, h, j, hj => by
    have h' : r[i]? = some p := by simpa using h
    show (flCells1 q ++ flCells r)[(i + 1) * 5 + j]? = _
    rw [List.getElem?_append_right (by simp [flCells1]; omega), show (i + 1) * 5 + j - (flCells1 q).length = i * 5 + j by simp [flCells1]; omega]
    exact flCells_at r i p h' j hj
def opCells (op : List Nat) : List Value := op.map fun (k : Nat) => Value.int .i64 (k : Int)
/-- The builder's block. -/
def RB (w : World) (R : Nat) (lv ov : Value) (bad : Bool) : Prop := w.heap[R]? = some (.cells #[lv, ov, .bool bad] 57 (0, 0))
/-- The document's builder. -/
def FB (w : World) (base R : Nat) (fl : List Fl) (op : List Nat) (bad : Bool) : Prop :=
  base ≤ R ∧ base ≤ w.heap.size ∧ ∃ lv ov, RB w R lv ov bad ∧ w.ownsRow base 69 5 lv fl.length (flCells fl) ∧ w.ownsRow base 3 1 ov op.length (opCells op)
theorem FB.under {w w' : World} {base R : Nat} {fl : List Fl} {op : List Nat} {bad : Bool} (h : FB w base R fl op bad) (hb : Below w.heap.size w w') : FB w' base R fl op bad := by
  obtain ⟨h1, h2, lv, ov, h3, h4, h5⟩ := h
  exact ⟨h1, Nat.le_trans h2 hb.size, lv, ov, (hb.block _ (lt_of_block h3)).trans h3, own_below h4 hb, own_below h5 hb⟩
theorem FB.reads {w : World} {base R : Nat} {fl : List Fl} {op : List Nat} {bad : Bool} (h : FB w base R fl op bad) : ∃ lp lc pp pc, RB w R (.slice lp fl.length lc) (.slice pp op.length pc) bad ∧
    (∀ i f, fl[i]? = some f → ∃ g, lp = some ⟨g, 0, none⟩ ∧ w.cell? ⟨g, i * 5, none⟩ = some (.string ⟨f.name.toArray⟩) ∧ w.cell? ⟨g, i * 5 + 1, none⟩ = some (.slice f.ap f.am f.ac) ∧ w.cell? ⟨g, i * 5 + 2, none⟩ = some (.string ⟨f.text.toArray⟩) ∧ w.cell? ⟨g, i * 5 + 3, none⟩ = some (.slice none 0 0) ∧ w.cell? ⟨g, i * 5 + 4, none⟩ = some (.int .i64 f.up)) ∧
    (∀ (i k : Nat), op[i]? = some k → ∃ g, pp = some ⟨g, 0, none⟩ ∧ w.cell? ⟨g, i, none⟩ = some (.int .i64 (k : Int))) := by
  obtain ⟨_, _, lv, ov, h3, h4, h5⟩ := h
  obtain ⟨lp, lc, rfl⟩ := own_len h4
  obtain ⟨pp, pc, rfl⟩ := own_len h5
  refine ⟨lp, lc, pp, pc, h3, ?_, ?_⟩
  · intro i f hi
    have hil : i < fl.length := (List.getElem?_eq_some_iff.1 hi).1
    obtain ⟨g, cap, e2, hcell⟩ := own_at h4 (by omega)
    cases e2
    have hat := fun j hj => (hcell (i * 5 + j) (by omega)).trans (flCells_at fl i f hi j hj)
    exact ⟨g, rfl, hat 0 (by decide), hat 1 (by decide), hat 2 (by decide), hat 3 (by decide), hat 4 (by decide)⟩
  · intro i k hi
    have hil : i < op.length := (List.getElem?_eq_some_iff.1 hi).1
    obtain ⟨g, cap, e2, hcell⟩ := own_at h5 (by omega)
    cases e2
    refine ⟨g, rfl, ?_⟩
    rw [hcell i (by omega)]
    unfold opCells
    rw [List.getElem?_map, hi]
    rfl
/-- Blocks of tokens stay. -/
def TKept (w w' : World) : Prop := ∀ (k : Nat) (cs : Array Value) (fz : Nat × Nat), w.heap[k]? = some (.cells cs 36 fz) → w'.heap[k]? = some (.cells cs 36 fz)
/-- All below a base stays, and all blocks of tokens. -/
structure Bel (base : Nat) (w w' : World) : Prop where
  b : Below base w w'
  t : TKept w w'
theorem Bel.trans {base : Nat} {a b c : World} (h : Bel base a b) (k : Bel base b c) : Bel base a c := ⟨h.b.trans k.b, fun i cs fz e => k.t i cs fz (h.t i cs fz e)⟩
theorem Bel.of {base : Nat} {w w' : World} (h : Below w.heap.size w w') (hb : base ≤ w.heap.size) : Bel base w w' := ⟨h.mono hb, fun i _ _ e => (h.block i (lt_of_block e)).trans e⟩
theorem Bel.set {base R : Nat} {w : World} {cs : Array Value} {t : TypeId} {fz : Nat × Nat} (h : w.heap[R]? = some (.cells cs t fz)) (hne : 36 ≠ t) (hb : base ≤ R) (j : Nat) (v : Value) : Bel base w (w.setCell ⟨R, j, none⟩ v) := by
  refine ⟨(Below.refl base w).setCell (p := ⟨R, j, none⟩) hb v, ?_⟩
  intro i cs' fz' e
  have hi : i ≠ R := by
    intro e2
    rw [e2, h] at e
    injection e with e
    injection e with _ e3 _
    exact hne e3.symm
  rw [Below.heap_setCell _ _ _ _ (by simpa using hi)]
  exact e
theorem Bel.grown {base : Nat} {w w' : World} {e : TypeId} {size n : Nat} {v : Value} {xs : List Value} (hg : w.grownBy w' v.ownBlock) (hb : base ≤ w.heap.size) (hro : w.ownsRow base e size v n xs) (hne : e ≠ 36) : Bel base w w' := by
  refine ⟨(Below.refl base w).grown hg hb (fun j hj => (hro.lt j hj).1), ?_⟩
  intro i cs fz h
  exact (hg.block i (lt_of_block h) (fun e2 => own_apart hro h hne e2.symm)).trans h
/-- Where what comes is put. -/
def hereF (op : List Nat) : Int := match op.getLast? with | none => -1 | some k => (k : Int)
theorem hereF_snoc (i : List Nat) (k : Nat) : hereF (i ++ [k]) = (k : Int) := by
  unfold hereF
  rw [List.getLast?_concat]

set_option maxRecDepth 100000 in
set_option maxHeartbeats 8000000 in
theorem here_st (w : World) (base R : Nat) (fl : List Fl) (op : List Nat) (bad : Bool) (h : FB w base R fl op bad) (hl : op.length ≤ 100000) :
    Calls Try.prog 46 #[.pointer (some ⟨R, 0, none⟩)] w fun e w' => e = .returned (.int .i64 (hereF op)) ∧ ∃ n, w' = w.drewN n := by
  obtain ⟨lp, lc, pp, pc, hR, -, ho⟩ := h.reads
  rcases List.eq_nil_or_concat op with rfl | ⟨i, k, rfl⟩
  · have c1 : w.cell? ⟨R, 1, none⟩ = some (.slice pp 0 pc) := tag_cell hR 1 _ rfl
    clear h hR ho
    go_enter Try.func46, Try.ntmps46
    go_wp2_with fail
    go_ret
    exact ⟨rfl, 0, rfl⟩
  · rw [List.concat_eq_append] at *
    have hlen : (i ++ [k]).length = i.length + 1 := by simp
    rw [hlen] at hR hl
    obtain ⟨g, rfl, hc⟩ := ho i.length k (by rw [List.getElem?_append_right (Nat.le_refl _), Nat.sub_self]; rfl)
    have c1 : w.cell? ⟨R, 1, none⟩ = some (.slice (some ⟨g, 0, none⟩) (i.length + 1) pc) := tag_cell hR 1 _ rfl
    rw [hereF_snoc]
    clear h hR ho hlen
    go_enter Try.func46, Try.ntmps46
    go_wp2_with fail
    go_quiet (fail)
    go_wp2_with fail
    go_ret
    exact ⟨rfl, _, rfl⟩

/-- How many are open up to the innermost one of some names (listed innermost first). -/
def innerF (ns : List (List UInt8)) : List (List UInt8) → Nat
  | [] => 0
  | a :: rest => if a ∈ ns then rest.length + 1 else innerF ns rest
def nmF (fl : List Fl) (k : Nat) : List UInt8 := (fl[k]?.map Fl.name).getD []
def nmsF (fl : List Fl) (op : List Nat) : List (List UInt8) := (op.map (nmF fl)).reverse

set_option maxRecDepth 100000 in
set_option maxHeartbeats 8000000 in
theorem inner_st (w : World) (base R : Nat) (fl : List Fl) (op : List Nat) (bad : Bool) (names : List ByteArray) (g0 cap : Nat) (h : FB w base R fl op bad) (hin : ∀ k ∈ op, k < fl.length) (hl : op.length ≤ 100000) (_hlf : fl.length ≤ 100000) (hnl : names.length ≤ 100000) (hc : ∀ i x, names[i]? = some x → w.cell? ⟨g0, i, none⟩ = some (.string x)) :
    Calls Try.prog 47 #[.pointer (some ⟨R, 0, none⟩), .slice (some ⟨g0, 0, none⟩) names.length cap] w fun e w' => e = .returned (.int .i64 (innerF (names.map bl) (nmsF fl op) : Int)) ∧ ∃ n, w' = w.drewN n := by
  obtain ⟨lp, lc, pp, pc, hR, hf, ho⟩ := h.reads
  have c0 : w.cell? ⟨R, 0, none⟩ = some (.slice lp fl.length lc) := tag_cell hR 0 _ rfl
  have c1 : w.cell? ⟨R, 1, none⟩ = some (.slice pp op.length pc) := tag_cell hR 1 _ rfl
  have HF := hide hf
  have HO := hide ho
  have HC := hide hc
  have HIN := hide hin
  obtain ⟨N, hN⟩ : ∃ N, N = op.length := ⟨_, rfl⟩
  obtain ⟨M, hM⟩ : ∃ M, M = fl.length := ⟨_, rfl⟩
  obtain ⟨Z, hZ⟩ : ∃ Z, Z = innerF (names.map bl) (nmsF fl op) := ⟨_, rfl⟩
  rw [← hZ]
  rw [← hN] at c1 hl
  rw [← hM] at c0
  have HN := hide hN
  have HM := hide hM
  have HZ := hide hZ
  clear h hR hf ho hc hin hN hM hZ
  go_enter Try.func47, Try.ntmps47
  go_wp2_with fail
  go_loopg [5] N (fun k v5 wr => v5 = .int .i64 ((k : Int) - 1) ∧ k ≤ N ∧ Hid (∃ n, wr = w.drewN n) ∧ Hid (Z = innerF (names.map bl) (((op.take k).map (nmF fl)).reverse)))
  case atStart => exact ⟨rfl, Nat.le_refl _, hide ⟨0, rfl⟩, hide (by rw [List.take_of_length_le (by rw [HN.out]; exact Nat.le_refl _)]; exact HZ.out)⟩
  case round =>
    obtain ⟨rfl, hgk, HW, HZ2⟩ := hrel
    match gk, hgk, HZ2 with
    | 0, hgk, HZ2 =>
      have hz : Z = 0 := HZ2.out
      subst hz
      clear HZ2
      go_wp2_with fail
      try rw [Exit.noGoto_ret]
      go_ret
      exact ⟨rfl, HW.out⟩
    | j + 1, hgk, HZ2 =>
      have hj : j < op.length := by rw [← HN.out]; omega
      have hgo : op[j]? = some op[j] := List.getElem?_eq_getElem hj
      have hk := HIN.out op[j] (List.getElem_mem hj)
      generalize op[j] = k at hgo hk
      have hgf : fl[k]? = some fl[k] := List.getElem?_eq_getElem hk
      generalize fl[k] = f at hgf
      obtain ⟨g1, hp1, x1⟩ := HO.out j k hgo
      obtain ⟨g2, hp2, x2, -⟩ := HF.out k f hgf
      subst hp1
      subst hp2
      have hkM : k < M := by rw [HM.out]; exact hk
      have htk : ((op.take (j + 1)).map (nmF fl)).reverse = f.name :: ((op.take j).map (nmF fl)).reverse := by
        rw [List.take_add_one, hgo, List.map_append, List.reverse_append]
        show nmF fl k :: _ = _
        unfold nmF
        rw [hgf]
        rfl
      have hln : ((op.take j).map (nmF fl)).reverse.length = j := by simp; omega
      rw [htk] at HZ2
      obtain ⟨XN, hXN⟩ : ∃ X : ByteArray, X = ⟨f.name.toArray⟩ := ⟨_, rfl⟩
      rw [← hXN] at x2
      have hbl : bl XN = f.name := by rw [hXN]
      have hxw : ∀ (n : Nat), Calls Try.prog 28 #[.slice (some ⟨g0, 0, none⟩) names.length cap, .string XN] (w.drewN n) fun e w' => e = .returned (.bool (decide (f.name ∈ names.map bl))) ∧ ∃ m, w' = (w.drewN n).drewN m := by
        intro n
        have := has_any names g0 cap XN (w.drewN n) hnl HC.out
        rw [hbl] at this
        refine this.mono ?_
        rintro e w' ⟨rfl, rfl⟩
        exact ⟨rfl, 0, rfl⟩
      obtain ⟨n0, hn0⟩ := HW.out
      subst hn0
      have c0 : (w.drewN n0).cell? ⟨R, 0, none⟩ = some (.slice (some ⟨g2, 0, none⟩) M lc) := c0
      have c1 : (w.drewN n0).cell? ⟨R, 1, none⟩ = some (.slice (some ⟨g1, 0, none⟩) N pc) := c1
      have x1 : (w.drewN n0).cell? ⟨g1, j, none⟩ = some (.int .i64 (k : Int)) := x1
      have x2 : (w.drewN n0).cell? ⟨g2, k * 5, none⟩ = some (.string XN) := x2
      have HXW : Hid (∀ (n : Nat), Calls Try.prog 28 #[.slice (some ⟨g0, 0, none⟩) names.length cap, .string XN] ((w.drewN n0).drewN n) fun e w' => e = .returned (.bool (decide (f.name ∈ names.map bl))) ∧ ∃ m, w' = ((w.drewN n0).drewN n).drewN m) := hide (by
        intro n
        have := hxw (n0 + n)
        rw [World.drewN_drewN]
        exact this)
      obtain ⟨T, hT⟩ : ∃ T : Bool, T = decide (f.name ∈ names.map bl) := ⟨_, rfl⟩
      rw [← hT] at HXW
      have HT := hide hT
      obtain ⟨V, hV⟩ : ∃ V, V = w.drewN n0 := ⟨_, rfl⟩
      rw [← hV] at c0 c1 x1 x2 HXW ⊢
      have HV := hide hV
      clear hxw hXN hbl hgf hgo htk hT hV HF HO HC
      cases T with
      | true =>
        have hz : Z = j + 1 := by
          rw [HZ2.out]
          unfold innerF
          rw [if_pos (of_decide_eq_true HT.out.symm), hln]
        subst hz
        clear HZ2 HT hln
        go_wp2_with fail
        go_quiet ((go_at_call 28; exact Calls.quiet_of (HXW.out _)))
        go_wp2_with fail
        try rw [Exit.noGoto_ret]
        go_ret
        refine ⟨rfl, ?_⟩
        rw [HV.out]
        exact ⟨_, World.drewN_drewN ..⟩
      | false =>
        have HZ3 : Hid (Z = innerF (names.map bl) (((op.take j).map (nmF fl)).reverse)) := hide (by
          rw [HZ2.out]
          conv => lhs; unfold innerF
          rw [if_neg (of_decide_eq_false HT.out.symm)])
        clear HZ2 HT hln
        go_wp2_with fail
        go_quiet ((go_at_call 28; exact Calls.quiet_of (HXW.out _)))
        go_wp2_with fail
        go_roundg j
        case measure => omega
        case rel => exact ⟨by first | rfl | simp, by omega, hide (by rw [HV.out]; exact ⟨_, World.drewN_drewN ..⟩), HZ3⟩

theorem own_take {w : World} {base : Nat} {e : TypeId} {size n cap m : Nat} {p : Option Addr} {xs : List Value} (h : w.ownsRow base e size (.slice p n cap) n xs) (hm : m ≤ n) (hp : p ≠ none) : w.ownsRow base e size (.slice p m cap) m (xs.take (m * size)) := by
  obtain ⟨h1, ⟨e1, _⟩ | ⟨g', cap', cur, e1, h2, h3, h4, h5, h6, h7⟩⟩ := h
  · cases e1
    exact absurd rfl hp
  · cases e1
    have hle : m * size ≤ n * size := Nat.mul_le_mul_right _ hm
    refine ⟨by rw [List.length_take, h1, Nat.min_eq_left hle], .inr ⟨g', cap, cur, rfl, h2, h3, by omega, h5, h6, ?_⟩⟩
    rw [← h7, List.take_take, Nat.min_eq_left hle]
theorem rb_set {w : World} {R : Nat} {lv ov : Value} {bad : Bool} (h : RB w R lv ov bad) (v : Value) : RB (w.setCell ⟨R, 0, none⟩ v) R v ov bad ∧ RB (w.setCell ⟨R, 1, none⟩ v) R lv v bad := ⟨tok_set h 0 v, tok_set h 1 v⟩
/-- .. with fewer open ones. -/
theorem FB.shut {w : World} {base R : Nat} {fl : List Fl} {op : List Nat} {bad : Bool} {lv : Value} {pp : Option Addr} {pc m : Nat} (h : FB w base R fl op bad) (hR : RB w R lv (.slice pp op.length pc) bad) (hm : m ≤ op.length) (hp : pp ≠ none) : FB (w.setCell ⟨R, 1, none⟩ (.slice pp m pc)) base R fl (op.take m) bad := by
  obtain ⟨h1, h2, lv', ov', h3, h4, h5⟩ := h
  have e : lv' = lv ∧ ov' = .slice pp op.length pc := by
    unfold RB at h3 hR
    rw [h3] at hR
    simpa using hR
  obtain ⟨rfl, rfl⟩ := e
  refine ⟨h1, by simpa using h2, lv', .slice pp m pc, (rb_set h3 _).2, own_set h4 h3 (by decide) 1 _, ?_⟩
  have := own_take h5 hm hp
  rw [Nat.mul_one] at this
  have hl : (op.take m).length = m := by rw [List.length_take, Nat.min_eq_left hm]
  rw [hl]
  have e2 : opCells (op.take m) = (opCells op).take m := by
    unfold opCells
    rw [List.map_take]
  rw [e2]
  exact own_set this h3 (by decide) 1 _
end Go.Proofs.Ytkdppcpkigpmdaa
