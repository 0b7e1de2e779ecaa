/-
  The law DomBeside, walked: it answers true at every texts, either way.
-/
import Derived.Test.YtkdppcpkigpmdabH4
namespace Go.Proofs.Ytkdppcpkigpmdab
open Go.RowKit
open Utf1

theorem bl_back (b : ByteArray) : (⟨(bl b).toArray⟩ : ByteArray) = b := by cases b; simp [bl]
theorem tok_ones (l : List Te) {A : Array Value} (hA : (tokCells l).toArray = A) : ∀ u ∈ A.toList, u.oneCell' = true := by
  subst hA
  induction l with
  | nil => intro u hu; cases hu
  | cons e l ih =>
    intro u hu
    have hu : u ∈ tokCells1 e ++ tokCells l := hu
    rcases List.mem_append.1 hu with h | h
    · exact tok_one e u h
    · exact ih u h
/-- A slice of strings that came in. -/
def StrArg (w : World) (v : Value) (ss : List ByteArray) : Prop := ∃ p cap, v = .slice p ss.length cap ∧ ∀ i s, ss[i]? = some s → ∃ b off, p = some ⟨b, off, none⟩ ∧ w.cell? ⟨b, off + i, none⟩ = some (.string s)

set_option maxRecDepth 100000 in
set_option maxHeartbeats 8000000 in
theorem besideP_walk (v : Value) (ss : List ByteArray) (w : World) (hv : StrArg w v ss) (hl : ¬ 100 < ss.length) :
    Calls Try.prog 4 #[v, .bool true] w fun e w' => e = .returned (.bool true) ∧ Below w.heap.size w w' := by
  obtain ⟨p, cap, rfl, hc⟩ := hv
  have HC := hide hc
  obtain ⟨i0, hi, hz0, hz1, hz2⟩ := info_parts infoTok
  obtain ⟨N, hN⟩ : ∃ N, N = ss.length := ⟨_, rfl⟩
  rw [← hN] at hl ⊢
  have HN := hide hN
  have hNl : N ≤ 100 := by omega
  have d0 : decide ((100 : Int) < (N : Int)) = false := decide_eq_false (by omega)
  clear hc hN hl
  go_enter Try.func4, Try.ntmps4
  go_wp2_with fail
  refine (awake_st _).mono ?_
  rintro e w1 ⟨rfl, hb1⟩
  have HB1 := hide hb1
  clear hb1
  go_wp2_with fail
  go_loopg [7, 8] N (fun k v7 v8 wr => ∃ i : Nat, i + k = N ∧ v8 = .int .i64 (i : Int) ∧ (∃ p m c, v7 = .slice p m c) ∧ Hid (wr.ownsRow w1.heap.size 27 5 v7 (2 * i) (tokCells (toksP ((ss.map bl).take i)))) ∧ Hid (Below w1.heap.size w1 wr) ∧ Hid (∀ x ∈ ss.take i, bl x ≠ [] ∧ x.size ≤ 100))
  case atStart => exact ⟨0, by omega, rfl, ⟨_, _, _, rfl⟩, hide (World.ownsRow_nil _ _ _ _), hide (Below.refl _ _), hide (fun x hx => by simp at hx)⟩
  case round =>
    obtain ⟨i, hik, rfl, ⟨q, m, c, rfl⟩, HO, HB, HX⟩ := hrel
    have hbz : w1.heap.size ≤ wr.heap.size := HB.out.size
    have HBW := hide (HB1.out.trans (HB.out.mono HB1.out.size))
    by_cases hlt : i < N
    · have hd : decide ((i : Int) < (N : Int)) = true := decide_eq_true (by omega)
      have hlt' : i < ss.length := by rw [← HN.out]; exact hlt
      have hge : ss[i]? = some ss[i] := List.getElem?_eq_getElem hlt'
      generalize ss[i] = x at hge
      obtain ⟨b, off, rfl, c0⟩ := HC.out i x hge
      have c0 := cell_keep c0 HBW.out
      have f0 := eqlit x []
      by_cases hx0 : bl x = []
      · rw [decide_eq_true hx0] at f0
        have f1 : x.toList.isEmpty = true := by
          cases hh : x.toList with
          | nil => rfl
          | cons => rw [hh] at f0; cases f0
        clear hx0 hge HX HO HB
        go_wp2_with fail
        try rw [Exit.noGoto_ret]
        go_ret
        exact ⟨rfl, HBW.out⟩
      rw [decide_eq_false hx0] at f0
      have f1 : x.toList.isEmpty = false := by
        cases hh : x.toList with
        | nil => rw [hh] at f0; cases f0
        | cons => rfl
      by_cases hx1 : 100 < x.size
      · have d1 : decide ((100 : Int) < (x.size : Int)) = true := decide_eq_true (by omega)
        clear hx0 hge HX HO HB
        go_wp2_with fail
        try rw [Exit.noGoto_ret]
        go_ret
        exact ⟨rfl, HBW.out⟩
      have d1 : decide ((100 : Int) < (x.size : Int)) = false := decide_eq_false (by omega)
      have htk : ss.take (i + 1) = ss.take i ++ [x] := by rw [List.take_add_one, hge]; rfl
      have HX2 : Hid (∀ y ∈ ss.take (i + 1), bl y ≠ [] ∧ y.size ≤ 100) := hide (by
        intro y hy
        rw [htk] at hy
        rcases List.mem_append.1 hy with hy | hy
        · exact HX.out y hy
        · simp only [List.mem_singleton] at hy
          subst hy
          exact ⟨hx0, by omega⟩)
      have HTK : Hid (toksP ((ss.map bl).take (i + 1)) = toksP ((ss.map bl).take i) ++ ([eS [112], eX (bl x)])) := hide (by
        have htk2 : (ss.map bl).take (i + 1) = (ss.map bl).take i ++ [bl x] := by
          rw [List.take_add_one, List.getElem?_map, hge]
          rfl
        rw [htk2, toksP_app]
        rfl)
      have hA : (tokCells [eS [112], eX (bl x)]).toArray = #[.int .i64 2, .string ⟨#[112]⟩, .slice none 0 0, .bool false, .string ⟨#[]⟩, .int .i64 1, .string ⟨#[]⟩, .slice none 0 0, .bool false, .string x] := by
        show #[Value.int .i64 2, .string ⟨#[112]⟩, .slice none 0 0, .bool false, .string ⟨#[]⟩, .int .i64 1, .string ⟨#[]⟩, .slice none 0 0, .bool false, .string ⟨(bl x).toArray⟩] = _
        rw [bl_back]
      have HA := hide hA
      have hal : Below wr.heap.size wr (wr.alloc (.cells #[.int .i64 2, .string ⟨#[112]⟩, .slice none 0 0, .bool false, .string ⟨#[]⟩, .int .i64 1, .string ⟨#[]⟩, .slice none 0 0, .bool false, .string x] 27)) := (Below.refl _ _).alloc (Nat.le_refl _) _
      have HO2 := hide (own_below HO.out hal)
      have HB2 := hide (HB.out.alloc hbz (.cells #[.int .i64 2, .string ⟨#[112]⟩, .slice none 0 0, .bool false, .string ⟨#[]⟩, .int .i64 1, .string ⟨#[]⟩, .slice none 0 0, .bool false, .string x] 27))
      clear hal hA htk hge HX HO HB hx0
      go_wp2_with (at_builtin; refine wpList_append_own _ rfl _ _ 23 rfl w1.heap.size 27 i0 _ 5 72 Try.underlying23 hi hz0 hz1 hz2 rfl (by decide) (.slice q m c) (2 * i) (tokCells (toksP ((ss.map bl).take i))) rfl HO2.out ⟨wr.heap.size, 0, none⟩ 2 2 #[.int .i64 2, .string ⟨#[112]⟩, .slice none 0 0, .bool false, .string ⟨#[]⟩, .int .i64 1, .string ⟨#[]⟩, .slice none 0 0, .bool false, .string x].toList rfl rfl (five_new wr _ _) (tok_ones _ HA.out) (by unfold maxLen; omega) (by omega) (by simp; omega) ?_)
      intro v' w5 hown5 hgr5 _
      obtain ⟨bp, bm, bc, rfl⟩ := own_slice hown5
      have HB5 := hide (HB2.out.grown hgr5 (by simp; omega) (fun j hj => (HO2.out.lt j hj).1))
      have HO5 : Hid (w5.ownsRow w1.heap.size 27 5 (.slice bp bm bc) (2 * (i + 1)) (tokCells (toksP ((ss.map bl).take (i + 1))))) := hide (by
        rw [HTK.out, tokCells_app]
        have e := congrArg Array.toList HA.out
        rw [List.toList_toArray] at e
        rw [e]
        exact hown5)
      clear hown5 hgr5 HO2 HB2 HA HTK
      go_wp2_with fail
      go_roundg (gk - 1)
      case measure => omega
      case rel => exact ⟨i + 1, by omega, by first | rfl | simp, ⟨_, _, _, rfl⟩, HO5, HB5, HX2⟩
    · have hd : decide ((i : Int) < (N : Int)) = false := decide_eq_false (by omega)
      have e : i = N := by omega
      subst e
      have htl : ss.take i = ss := by rw [HN.out]; exact List.take_length
      have htl2 : (ss.map bl).take i = ss.map bl := by rw [← List.map_take, htl]
      rw [htl2] at HO
      rw [htl] at HX
      have hsl : (ss.map bl).length = i := by rw [List.length_map, ← HN.out]
      have hrow : TokRow wr (.slice q m c) (toksP (ss.map bl)) := tok_own (base := w1.heap.size) (by
        rw [toksP_len, hsl]
        exact HO.out)
      have hne : ∀ x ∈ ss.map bl, x ≠ [] := by
        intro x hx
        obtain ⟨y, hy, rfl⟩ := List.mem_map.1 hx
        exact (HX.out y hy).1
      have hle : ∀ x ∈ ss.map bl, x.length ≤ 100 := by
        intro x hx
        obtain ⟨y, hy, rfl⟩ := List.mem_map.1 hx
        rw [bl_len]
        exact (HX.out y hy).2
      have hsum := sum_P (ss.map bl) hle
      have hbuild := build_P (ss.map bl) hne (by omega)
      have HBU : Hid (Calls Try.prog 6 #[.slice q m c] wr fun e w' => ∃ p c fp, e = .returned (.tuple #[.slice p i c, .int .i64 0]) ∧ KAt w' wr.heap.size (.slice p i c) ((ss.map bl).map (elS [112])) fp ∧ Below wr.heap.size wr w') := hide (by
        refine (build_plain wr _ (toksP (ss.map bl)) hrow (by rw [toksP_len]; omega) (by omega) (fun e he => (plain_P _ e he).1) (fun e he => (plain_P _ e he).2)).mono ?_
        rintro e w' ⟨r, rfl, ⟨fp, hk⟩, hb⟩
        rw [hbuild] at hk ⊢
        have hk : KAt w' wr.heap.size r ((ss.map bl).map (elS [112])) fp := hk
        obtain ⟨p, c, rfl, -⟩ := kat_node hk
        rw [List.length_map, hsl] at hk ⊢
        exact ⟨p, c, fp, rfl, hk, hb⟩)
      clear hrow hne hle hsum hbuild HO HX HB htl htl2 hsl
      go_wp2_with fail
      refine HBU.out.mono ?_
      rintro e w2 ⟨p2, c2, fp, rfl, hk, hb2⟩
      obtain ⟨p3, c3, e3, hnode3⟩ := kat_node hk
      injection e3 with e31 e32 e33
      subst e31
      have HK := hide hnode3
      clear e32 e33 hnode3
      have HB2 := hide (HBW.out.trans (hb2.mono HBW.out.size))
      clear hk hb2 HBU HBW
      go_wp2_with fail
      go_loopg [11] i (fun k v11 wx => ∃ j : Nat, j + k = i ∧ v11 = .int .i64 (j : Int) ∧ Hid (Below w2.heap.size w2 wx))
      case atStart => exact ⟨0, by omega, rfl, hide (Below.refl _ _)⟩
      case round =>
        obtain ⟨j, hjk, rfl, HW⟩ := hrel
        have HBX := hide (HB2.out.trans (HW.out.mono HB2.out.size))
        by_cases hj : j < i
        · have hdj : decide ((j : Int) < (i : Int)) = true := decide_eq_true (by omega)
          have hj' : j < ss.length := by rw [← HN.out]; exact hj
          have hge : ss[j]? = some ss[j] := List.getElem?_eq_getElem hj'
          generalize ss[j] = x at hge
          obtain ⟨b, off, rfl, c0⟩ := HC.out j x hge
          replace c0 := cell_keep c0 HBX.out
          have hnd : ((ss.map bl).map (elS [112]))[j]? = some (elS [112] (bl x)) := by
            rw [List.getElem?_map, List.getElem?_map, hge]
            rfl
          obtain ⟨g, ap, am, ac, kp, km, kc, f, hp, x0, x1, x2, x3, hkk, -⟩ := HK.out j _ hnd
          obtain ⟨p4, c4, e4, hnode4⟩ := kat_node hkk
          obtain ⟨g4, _, _, _, _, _, _, _, hp4, _, _, z2, -⟩ := hnode4 0 (.mk [] [] (bl x) []) rfl
          replace z2 := cell_keep z2 HW.out
          replace x0 := cell_keep x0 HW.out
          replace x3 := cell_keep x3 HW.out
          replace z2 : wr.cell? ⟨g4, 2, none⟩ = some (.string ⟨(bl x).toArray⟩) := z2
          rw [bl_back] at z2
          replace x0 : wr.cell? ⟨g, j * 4, none⟩ = some (.string ⟨#[112]⟩) := x0
          subst hp4
          cases e4
          replace x3 : wr.cell? ⟨g, j * 4 + 3, none⟩ = some (.slice (some ⟨g4, 0, none⟩) 1 kc) := x3
          subst hp
          clear hnode4 hkk hnd hge x1 x2
          go_wp2_with fail
          go_quiet (fail)
          go_wp2_with fail
          go_roundg (gk - 1)
          case measure => omega
          case rel => exact ⟨j + 1, by omega, by first | rfl | simp, hide (HW.out.trans ((bel_drewN _ _).mono HW.out.size))⟩
        · have hdj : decide ((j : Int) < (i : Int)) = false := decide_eq_false (by omega)
          go_wp2_with fail
          go_ret
          exact ⟨rfl, HBX.out⟩

set_option maxRecDepth 100000 in
set_option maxHeartbeats 8000000 in
theorem besideB_walk (v : Value) (ss : List ByteArray) (w : World) (hv : StrArg w v ss) (hl : ¬ 100 < ss.length) :
    Calls Try.prog 4 #[v, .bool false] w fun e w' => e = .returned (.bool true) ∧ Below w.heap.size w w' := by
  obtain ⟨p, cap, rfl, hc⟩ := hv
  have HC := hide hc
  obtain ⟨i0, hi, hz0, hz1, hz2⟩ := info_parts infoTok
  obtain ⟨N, hN⟩ : ∃ N, N = ss.length := ⟨_, rfl⟩
  rw [← hN] at hl ⊢
  have HN := hide hN
  have hNl : N ≤ 100 := by omega
  have d0 : decide ((100 : Int) < (N : Int)) = false := decide_eq_false (by omega)
  clear hc hN hl
  go_enter Try.func4, Try.ntmps4
  go_wp2_with fail
  refine (awake_st _).mono ?_
  rintro e w1 ⟨rfl, hb1⟩
  have HB1 := hide hb1
  clear hb1
  go_wp2_with fail
  go_loopg [7, 8] N (fun k v7 v8 wr => ∃ i : Nat, i + k = N ∧ v8 = .int .i64 (i : Int) ∧ (∃ p m c, v7 = .slice p m c) ∧ Hid (wr.ownsRow w1.heap.size 27 5 v7 (3 * i) (tokCells (toksB ((ss.map bl).take i)))) ∧ Hid (Below w1.heap.size w1 wr) ∧ Hid (∀ x ∈ ss.take i, bl x ≠ [] ∧ x.size ≤ 100))
  case atStart => exact ⟨0, by omega, rfl, ⟨_, _, _, rfl⟩, hide (World.ownsRow_nil _ _ _ _), hide (Below.refl _ _), hide (fun x hx => by simp at hx)⟩
  case round =>
    obtain ⟨i, hik, rfl, ⟨q, m, c, rfl⟩, HO, HB, HX⟩ := hrel
    have hbz : w1.heap.size ≤ wr.heap.size := HB.out.size
    have HBW := hide (HB1.out.trans (HB.out.mono HB1.out.size))
    by_cases hlt : i < N
    · have hd : decide ((i : Int) < (N : Int)) = true := decide_eq_true (by omega)
      have hlt' : i < ss.length := by rw [← HN.out]; exact hlt
      have hge : ss[i]? = some ss[i] := List.getElem?_eq_getElem hlt'
      generalize ss[i] = x at hge
      obtain ⟨b, off, rfl, c0⟩ := HC.out i x hge
      have c0 := cell_keep c0 HBW.out
      have f0 := eqlit x []
      by_cases hx0 : bl x = []
      · rw [decide_eq_true hx0] at f0
        have f1 : x.toList.isEmpty = true := by
          cases hh : x.toList with
          | nil => rfl
          | cons => rw [hh] at f0; cases f0
        clear hx0 hge HX HO HB
        go_wp2_with fail
        try rw [Exit.noGoto_ret]
        go_ret
        exact ⟨rfl, HBW.out⟩
      rw [decide_eq_false hx0] at f0
      have f1 : x.toList.isEmpty = false := by
        cases hh : x.toList with
        | nil => rw [hh] at f0; cases f0
        | cons => rfl
      by_cases hx1 : 100 < x.size
      · have d1 : decide ((100 : Int) < (x.size : Int)) = true := decide_eq_true (by omega)
        clear hx0 hge HX HO HB
        go_wp2_with fail
        try rw [Exit.noGoto_ret]
        go_ret
        exact ⟨rfl, HBW.out⟩
      have d1 : decide ((100 : Int) < (x.size : Int)) = false := decide_eq_false (by omega)
      have htk : ss.take (i + 1) = ss.take i ++ [x] := by rw [List.take_add_one, hge]; rfl
      have HX2 : Hid (∀ y ∈ ss.take (i + 1), bl y ≠ [] ∧ y.size ≤ 100) := hide (by
        intro y hy
        rw [htk] at hy
        rcases List.mem_append.1 hy with hy | hy
        · exact HX.out y hy
        · simp only [List.mem_singleton] at hy
          subst hy
          exact ⟨hx0, by omega⟩)
      have HTK : Hid (toksB ((ss.map bl).take (i + 1)) = toksB ((ss.map bl).take i) ++ ([eS [98], eX (bl x)] ++ [eE [98]])) := hide (by
        have htk2 : (ss.map bl).take (i + 1) = (ss.map bl).take i ++ [bl x] := by
          rw [List.take_add_one, List.getElem?_map, hge]
          rfl
        rw [htk2, toksB_app]
        rfl)
      have hA : (tokCells [eS [98], eX (bl x)]).toArray = #[.int .i64 2, .string ⟨#[98]⟩, .slice none 0 0, .bool false, .string ⟨#[]⟩, .int .i64 1, .string ⟨#[]⟩, .slice none 0 0, .bool false, .string x] := by
        show #[Value.int .i64 2, .string ⟨#[98]⟩, .slice none 0 0, .bool false, .string ⟨#[]⟩, .int .i64 1, .string ⟨#[]⟩, .slice none 0 0, .bool false, .string ⟨(bl x).toArray⟩] = _
        rw [bl_back]
      have HA := hide hA
      have hal : Below wr.heap.size wr (wr.alloc (.cells #[.int .i64 2, .string ⟨#[98]⟩, .slice none 0 0, .bool false, .string ⟨#[]⟩, .int .i64 1, .string ⟨#[]⟩, .slice none 0 0, .bool false, .string x] 27)) := (Below.refl _ _).alloc (Nat.le_refl _) _
      have HO2 := hide (own_below HO.out hal)
      have HB2 := hide (HB.out.alloc hbz (.cells #[.int .i64 2, .string ⟨#[98]⟩, .slice none 0 0, .bool false, .string ⟨#[]⟩, .int .i64 1, .string ⟨#[]⟩, .slice none 0 0, .bool false, .string x] 27))
      clear hal hA htk hge HX HO HB hx0
      go_wp2_with (at_builtin; refine wpList_append_own _ rfl _ _ 23 rfl w1.heap.size 27 i0 _ 5 72 Try.underlying23 hi hz0 hz1 hz2 rfl (by decide) (.slice q m c) (3 * i) (tokCells (toksB ((ss.map bl).take i))) rfl HO2.out ⟨wr.heap.size, 0, none⟩ 2 2 #[.int .i64 2, .string ⟨#[98]⟩, .slice none 0 0, .bool false, .string ⟨#[]⟩, .int .i64 1, .string ⟨#[]⟩, .slice none 0 0, .bool false, .string x].toList rfl rfl (five_new wr _ _) (tok_ones _ HA.out) (by unfold maxLen; omega) (by omega) (by simp; omega) ?_)
      intro v' w5 hown5 hgr5 _
      obtain ⟨bp, bm, bc, rfl⟩ := own_slice hown5
      have HB5 := hide (HB2.out.grown hgr5 (by simp; omega) (fun j hj => (HO2.out.lt j hj).1))
      have hbz5 : w1.heap.size ≤ w5.heap.size := HB5.out.size
      have hal5 : Below w5.heap.size w5 (w5.alloc (.cells #[.int .i64 3, .string ⟨#[98]⟩, .slice none 0 0, .bool false, .string ⟨#[]⟩] 27)) := (Below.refl _ _).alloc (Nat.le_refl _) _
      have HO6 := hide (own_below hown5 hal5)
      have HB6 := hide (HB5.out.alloc hbz5 (.cells #[.int .i64 3, .string ⟨#[98]⟩, .slice none 0 0, .bool false, .string ⟨#[]⟩] 27))
      clear hown5 hgr5 HO2 HB2 hal5 HB5
      go_wp2_with (at_builtin; refine wpList_append_own _ rfl _ _ 23 rfl w1.heap.size 27 i0 _ 5 72 Try.underlying23 hi hz0 hz1 hz2 rfl (by decide) (.slice bp bm bc) (3 * i + 2) _ rfl HO6.out ⟨w5.heap.size, 0, none⟩ 1 1 (tokCells1 (eE [98])) rfl rfl (five_new w5 _ _) (tok_one (eE [98])) (by unfold maxLen; omega) (by omega) (by simp; omega) ?_)
      intro v' w7 hown7 hgr7 _
      obtain ⟨bp7, bm7, bc7, rfl⟩ := own_slice hown7
      have HB5 := hide (HB6.out.grown hgr7 (by simp; omega) (fun j hj => (HO6.out.lt j hj).1))
      have HO5 : Hid (w7.ownsRow w1.heap.size 27 5 (.slice bp7 bm7 bc7) (3 * (i + 1)) (tokCells (toksB ((ss.map bl).take (i + 1))))) := hide (by
        rw [HTK.out, tokCells_app, tokCells_app]
        have e := congrArg Array.toList HA.out
        rw [List.toList_toArray] at e
        rw [e]
        have h7 := hown7
        simp only [List.cons_append, List.nil_append] at h7 ⊢
        exact h7)
      clear hown7 hgr7 HO6 HB6 HA HTK
      go_wp2_with fail
      go_roundg (gk - 1)
      case measure => omega
      case rel => exact ⟨i + 1, by omega, by first | rfl | simp, ⟨_, _, _, rfl⟩, HO5, HB5, HX2⟩
    · have hd : decide ((i : Int) < (N : Int)) = false := decide_eq_false (by omega)
      have e : i = N := by omega
      subst e
      have htl : ss.take i = ss := by rw [HN.out]; exact List.take_length
      have htl2 : (ss.map bl).take i = ss.map bl := by rw [← List.map_take, htl]
      rw [htl2] at HO
      rw [htl] at HX
      have hsl : (ss.map bl).length = i := by rw [List.length_map, ← HN.out]
      have hrow : TokRow wr (.slice q m c) (toksB (ss.map bl)) := tok_own (base := w1.heap.size) (by
        rw [toksB_len, hsl]
        exact HO.out)
      have hne : ∀ x ∈ ss.map bl, x ≠ [] := by
        intro x hx
        obtain ⟨y, hy, rfl⟩ := List.mem_map.1 hx
        exact (HX.out y hy).1
      have hle : ∀ x ∈ ss.map bl, x.length ≤ 100 := by
        intro x hx
        obtain ⟨y, hy, rfl⟩ := List.mem_map.1 hx
        rw [bl_len]
        exact (HX.out y hy).2
      have hsum := sum_B (ss.map bl) hle
      have hbuild := build_B (ss.map bl) hne (by omega)
      have HBU : Hid (Calls Try.prog 6 #[.slice q m c] wr fun e w' => ∃ p c fp, e = .returned (.tuple #[.slice p i c, .int .i64 0]) ∧ KAt w' wr.heap.size (.slice p i c) ((ss.map bl).map (elS [98])) fp ∧ Below wr.heap.size wr w') := hide (by
        refine (build_plain wr _ (toksB (ss.map bl)) hrow (by rw [toksB_len]; omega) (by omega) (fun e he => (plain_B _ e he).1) (fun e he => (plain_B _ e he).2)).mono ?_
        rintro e w' ⟨r, rfl, ⟨fp, hk⟩, hb⟩
        rw [hbuild] at hk ⊢
        have hk : KAt w' wr.heap.size r ((ss.map bl).map (elS [98])) fp := hk
        obtain ⟨p, c, rfl, -⟩ := kat_node hk
        rw [List.length_map, hsl] at hk ⊢
        exact ⟨p, c, fp, rfl, hk, hb⟩)
      clear hrow hne hle hsum hbuild HO HX HB htl htl2 hsl
      go_wp2_with fail
      refine HBU.out.mono ?_
      rintro e w2 ⟨p2, c2, fp, rfl, hk, hb2⟩
      obtain ⟨p3, c3, e3, hnode3⟩ := kat_node hk
      injection e3 with e31 e32 e33
      subst e31
      have HK := hide hnode3
      clear e32 e33 hnode3
      have HB2 := hide (HBW.out.trans (hb2.mono HBW.out.size))
      clear hk hb2 HBU HBW
      go_wp2_with fail
      go_loopg [11] i (fun k v11 wx => ∃ j : Nat, j + k = i ∧ v11 = .int .i64 (j : Int) ∧ Hid (Below w2.heap.size w2 wx))
      case atStart => exact ⟨0, by omega, rfl, hide (Below.refl _ _)⟩
      case round =>
        obtain ⟨j, hjk, rfl, HW⟩ := hrel
        have HBX := hide (HB2.out.trans (HW.out.mono HB2.out.size))
        by_cases hj : j < i
        · have hdj : decide ((j : Int) < (i : Int)) = true := decide_eq_true (by omega)
          have hj' : j < ss.length := by rw [← HN.out]; exact hj
          have hge : ss[j]? = some ss[j] := List.getElem?_eq_getElem hj'
          generalize ss[j] = x at hge
          obtain ⟨b, off, rfl, c0⟩ := HC.out j x hge
          replace c0 := cell_keep c0 HBX.out
          have hnd : ((ss.map bl).map (elS [98]))[j]? = some (elS [98] (bl x)) := by
            rw [List.getElem?_map, List.getElem?_map, hge]
            rfl
          obtain ⟨g, ap, am, ac, kp, km, kc, f, hp, x0, x1, x2, x3, hkk, -⟩ := HK.out j _ hnd
          obtain ⟨p4, c4, e4, hnode4⟩ := kat_node hkk
          obtain ⟨g4, _, _, _, _, _, _, _, hp4, _, _, z2, -⟩ := hnode4 0 (.mk [] [] (bl x) []) rfl
          replace z2 := cell_keep z2 HW.out
          replace x0 := cell_keep x0 HW.out
          replace x3 := cell_keep x3 HW.out
          replace z2 : wr.cell? ⟨g4, 2, none⟩ = some (.string ⟨(bl x).toArray⟩) := z2
          rw [bl_back] at z2
          replace x0 : wr.cell? ⟨g, j * 4, none⟩ = some (.string ⟨#[98]⟩) := x0
          subst hp4
          cases e4
          replace x3 : wr.cell? ⟨g, j * 4 + 3, none⟩ = some (.slice (some ⟨g4, 0, none⟩) 1 kc) := x3
          subst hp
          clear hnode4 hkk hnd hge x1 x2
          go_wp2_with fail
          go_quiet (fail)
          go_wp2_with fail
          go_roundg (gk - 1)
          case measure => omega
          case rel => exact ⟨j + 1, by omega, by first | rfl | simp, hide (HW.out.trans ((bel_drewN _ _).mono HW.out.size))⟩
        · have hdj : decide ((j : Int) < (i : Int)) = false := decide_eq_false (by omega)
          go_wp2_with fail
          go_ret
          exact ⟨rfl, HBX.out⟩

set_option maxRecDepth 100000 in
set_option maxHeartbeats 8000000 in
theorem lawBeside_walk (v : Value) (ss : List ByteArray) (block : Bool) (w : World) (hv : StrArg w v ss) :
    Calls Try.prog 4 #[v, .bool block] w fun e w' => e = .returned (.bool true) ∧ Below w.heap.size w w' := by
  by_cases hl : 100 < ss.length
  · obtain ⟨p, cap, rfl, -⟩ := hv
    have d0 : decide ((100 : Int) < (ss.length : Int)) = true := decide_eq_true (by omega)
    go_enter Try.func4, Try.ntmps4
    go_wp2_with fail
    refine (awake_st _).mono ?_
    rintro e w1 ⟨rfl, hb1⟩
    go_wp2_with fail
    go_ret
    exact ⟨rfl, hb1⟩
  · cases block with
    | true => exact besideP_walk v ss w hv hl
    | false => exact besideB_walk v ss w hv hl
end Go.Proofs.Ytkdppcpkigpmdab
