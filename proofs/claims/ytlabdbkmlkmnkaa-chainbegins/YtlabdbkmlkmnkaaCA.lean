/-
  The program's own Add.
-/
import Derived.Test.YtlabdbkmlkmnkaaCT
import Derived.ArgAppend
namespace Go.Proofs.Ytlabdbkmlkmnkaa
open Go.RowKit
open Utf1 Pol8

theorem wp_append_grows {P : Program} (w : World) {o : Oper} {a : Act} {K : Act → World → Prop} {Q : Exit → Act → World → Prop}
    (s x : Operand) (t : TypeId) (hop : o.op = Op.call { callee := Callee.builtin Builtin.append, args := #[s, x], argTypes := #[t, t] })
    (e : TypeId) (i : TypeInfo) (z : Value) (size bytes : Nat) (h1 : P.underlying t = some (.slice e)) (h2 : P.info? e = some i) (h3 : i.zero = some z) (h4 : i.size = size) (h5 : i.bytes = bytes) (h6 : z.cells.size = size) (h7 : 0 < size)
    (ao : Option Addr) (n cap : Nat) (olds : List Value) (hs : a.eval s = .slice ao n cap) (hnone : ao = none → n = 0 ∧ cap = 0) (hlo : olds.length = n * size) (holds : ∀ b, ao = some b → ∀ j u, olds[j]? = some u → w.cell? (b.add j) = some u)
    (ad : Addr) (m c : Nat) (news : List Value) (hx : a.eval x = .slice (some ad) m c) (hn : news.length = m * size) (hc : ∀ j u, news[j]? = some u → w.cell? (ad.add j) = some u) (h1c : ∀ u ∈ news, u.oneCell' = true)
    (hfull : cap < n + m) (b1 : n + m ≤ maxLen) (b2 : (n + m) * bytes ≤ 140737488355328)
    (hK : ∀ v' w', w'.ownsRow w.heap.size e size v' (n + m) (olds ++ news) → w.grownBy w' none → K (a.put o.dst v') w') :
    o.wp P a w K Q := by
  cases ao with
  | some b =>
    obtain ⟨v', w', hrun, r1, r2⟩ := run_append_arg_grows (P := P) w t o.type e i z size bytes h1 h2 h3 h4 h5 h6 h7 b n cap olds hlo (holds b rfl) ad m c news hn hc hfull b1 b2
    unfold Oper.wp
    simp [execOp, hop, resolve, invoke, builtin, hs, hx, hrun, Result.andThen]
    exact hK v' w' r1 r2
  | none =>
    obtain ⟨rfl, rfl⟩ := hnone rfl
    obtain rfl : olds = [] := List.eq_nil_of_length_eq_zero (by simpa using hlo)
    obtain ⟨v', w', hrun, r1, r2, _⟩ := run_append_own (P := P) w w.heap.size t o.type e i z size bytes h1 h2 h3 h4 h5 h6 h7 (.slice none 0 0) 0 [] (World.ownsRow_nil w _ e size) ad m c news hn hc h1c b1 b2 (Nat.le_refl _)
    unfold Oper.wp
    simp [execOp, hop, resolve, invoke, builtin, hs, hx, hrun, Result.andThen]
    exact hK v' w' r1 r2
theorem flat_inv : ∀ (ts : List It) (j : Nat) (u : Value), (flat ts)[j]? = some u → ∃ (i k : Nat) (t : It), ts[i]? = some t ∧ t.cells[k]? = some u ∧ j = i * 9 + k
  | [], j, u, h => by simp [flat] at h
  | x :: ts, j, u, h => by
    rw [flat_cons] at h
    by_cases hj : j < x.cells.length
    · rw [List.getElem?_append_left hj] at h
      exact ⟨0, j, x, rfl, h, by omega⟩
    · rw [List.getElem?_append_right (by omega)] at h
      obtain ⟨i, k, t, h1, h2, h3⟩ := flat_inv ts _ u h
      refine ⟨i + 1, k, t, by simpa using h1, h2, ?_⟩
      have e : x.cells.length = 9 := rfl
      omega
theorem PolRow.flat {w : World} {p : Option Addr} {n cap : Nat} {ts : List It} (h : PolRow w (.slice p n cap) ts) : ∀ a, p = some a → ∀ j u, (flat ts)[j]? = some u → w.cell? (a.add j) = some u := by
  intro a hp j u hj
  obtain ⟨i, k, t, h1, h2, rfl⟩ := flat_inv ts j u hj
  obtain ⟨b, off, cp, e, -, hr, -⟩ := h.at h1
  injection e with e
  rw [hp] at e
  injection e with e
  subst e
  rw [add_plain, ← Nat.add_assoc]
  exact hr i t h1 k u h2
/-- Values laid into a list from a place on. -/
def setL (xs : List Value) (o : Nat) : List Value → List Value
  | [] => xs
  | v :: r => setL (xs.set o v) (o + 1) r
theorem setL_right (a : List Value) : ∀ (vs xs : List Value) (o : Nat), setL (a ++ xs) (a.length + o) vs = a ++ setL xs o vs
  | [], _, _ => rfl
  | v :: r, xs, o => by
    rw [setL, setL, List.set_append_right _ _ (by omega), show a.length + o - a.length = o by omega]
    exact setL_right a r _ (o + 1)
theorem flat_set : ∀ (us : List It) (i : Nat) (t : It), i < us.length → setL (flat us) (i * 9) t.cells = flat (us.set i t)
  | [], i, t, h => by simp at h
  | x :: us, 0, t, _ => by
    rw [Nat.zero_mul, List.set_cons_zero, flat_cons, flat_cons]
    rfl
  | x :: us, i + 1, t, h => by
    rw [List.set_cons_succ, flat_cons, flat_cons, ← flat_set us i t (by simpa using h), show (i + 1) * 9 = x.cells.length + i * 9 by show (i + 1) * 9 = 9 + i * 9; omega]
    exact setL_right _ _ _ _
theorem own_setCells {B g n c : Nat} {e : TypeId} : ∀ (vs : List Value) (w : World) (o : Nat) (xs : List Value), w.ownsRow B e 9 (.slice (some ⟨g, 0, none⟩) n c) n xs → (w.setCells g o vs).ownsRow B e 9 (.slice (some ⟨g, 0, none⟩) n c) n (setL xs o vs)
  | [], _, _, _, h => h
  | v :: r, w, o, xs, h => by
    rw [World.setCells, setL]
    exact own_setCells r _ (o + 1) _ (h.stored o v).1
theorem below_setCells {B g : Nat} {a : World} (hg : B ≤ g) : ∀ (vs : List Value) (w : World) (o : Nat), Below B a w → Below B a (w.setCells g o vs)
  | [], _, _, h => h
  | v :: r, w, o, h => by
    rw [World.setCells]
    exact below_setCells hg r _ (o + 1) (h.setCell (show B ≤ (⟨g, o, none⟩ : Addr).block from hg) v)
theorem own_mono {w : World} {B C : Nat} {e : TypeId} {z n : Nat} {v : Value} {xs : List Value} (h : w.ownsRow C e z v n xs) (hB : B ≤ C) : w.ownsRow B e z v n xs :=
  ⟨h.1, h.2.imp id fun ⟨g, cap, cur, e, h1, h2⟩ => ⟨g, cap, cur, e, Nat.le_trans hB h1, h2⟩⟩
/-- A row of strings off a block. -/
def RowN (g : Nat) (w : World) (v : Value) (ss : List ByteArray) : Prop := StrArg w v ss ∧ ∀ b off n c, v = .slice (some ⟨b, off, none⟩) n c → n = 0 ∨ b ≠ g
theorem RowN.below {g : Nat} {w w' : World} {v : Value} {ss : List ByteArray} (h : RowN g w v ss) (hb : Below w.heap.size w w') : RowN g w' v ss := ⟨h.1.below hb, h.2⟩
theorem RowN.setCells {g : Nat} {w : World} {v : Value} {ss : List ByteArray} (h : RowN g w v ss) (o : Nat) (vs : List Value) : RowN g (w.setCells g o vs) v ss := by
  obtain ⟨⟨p, cap, rfl, h0, hc⟩, hb⟩ := h
  refine ⟨⟨p, cap, rfl, h0, fun i s hi => ?_⟩, hb⟩
  obtain ⟨b, off, hp, hcell⟩ := hc i s hi
  refine ⟨b, off, hp, ?_⟩
  have hl := (List.getElem?_eq_some_iff.1 hi).1
  have hne : b ≠ g := (hb b off _ _ (by rw [hp])).resolve_left (by omega)
  rw [World.cell?_setCells_out g vs o w ⟨b, off + i, none⟩ (fun e _ => absurd e hne)]
  exact hcell
theorem rowN_old {g : Nat} {w : World} {v : Value} {ss : List ByteArray} (h : StrArg w v ss) (hg : w.heap.size ≤ g) : RowN g w v ss := by
  refine ⟨h, fun b off n c e => ?_⟩
  obtain ⟨p, cap, rfl, -, hc⟩ := h
  injection e with e1 e2 e3
  subst e1 e2 e3
  cases ss with
  | nil => exact .inl rfl
  | cons x r =>
    obtain ⟨b', off', e, hcell⟩ := hc 0 x rfl
    injection e with e
    injection e with e1 e2
    subst e1 e2
    have := World.block_lt_of_cell? w _ hcell
    exact .inr (fun e => by
      have : b < w.heap.size := this
      omega)
theorem rowN_new {B g : Nat} {w : World} {v : Value} {ss : List ByteArray} (h : RowB B w v ss) (hg : g < B) : RowN g w v ss := ⟨h.1, fun b off n c e => .inr (by have := h.2 b off n c e; omega)⟩
/-- The slices lie off a block. -/
structure It.off (g : Nat) (w : World) (t : It) : Prop where
  k : t.ok w
  r1 : RowN g w t.v1 t.l1
  r2 : RowN g w t.v2 t.l2
  r3 : RowN g w t.v3 t.l3
  r4 : RowN g w t.v4 t.l4
  r5 : RowN g w t.v5 t.l5
theorem It.off.below {g : Nat} {w w' : World} {t : It} (h : t.off g w) (hb : Below w.heap.size w w') : t.off g w' := ⟨h.k.below hb, h.r1.below hb, h.r2.below hb, h.r3.below hb, h.r4.below hb, h.r5.below hb⟩
theorem It.off.setCells {g : Nat} {w : World} {t : It} (h : t.off g w) (o : Nat) (vs : List Value) : t.off g (w.setCells g o vs) :=
  have a1 := h.r1.setCells o vs
  have a2 := h.r2.setCells o vs
  have a3 := h.r3.setCells o vs
  have a4 := h.r4.setCells o vs
  have a5 := h.r5.setCells o vs
  ⟨⟨a1.1, a2.1, a3.1, a4.1, a5.1, h.k.e1, h.k.e2, h.k.e3, h.k.e4, h.k.e5, trivial⟩, a1, a2, a3, a4, a5⟩
theorem off_old {g : Nat} {w : World} {t : It} (h : t.ok w) (hg : w.heap.size ≤ g) : t.off g w := ⟨h, rowN_old h.s1 hg, rowN_old h.s2 hg, rowN_old h.s3 hg, rowN_old h.s4 hg, rowN_old h.s5 hg⟩
theorem off_new {B g : Nat} {w : World} {t : It} (hk : t.ok w) (h : t.new B w) (hg : g < B) : t.off g w := ⟨hk, rowN_new h.r1 hg, rowN_new h.r2 hg, rowN_new h.r3 hg, rowN_new h.r4 hg, rowN_new h.r5 hg⟩
/-- What is held while Add goes through its row. -/
structure AddI (w : World) (B g n c : Nat) (ps : List Pol) (us : List It) (wx : World) : Prop where
  o : wx.ownsRow B 30 9 (.slice (some ⟨g, 0, none⟩) n c) n (flat us)
  l : us.length = n
  m : us.map It.p = ps
  f : ∀ t ∈ us, t.off g wx
  b : Below w.heap.size w wx
theorem AddI.below {w wx wy : World} {B g n c : Nat} {ps : List Pol} {us : List It} (h : AddI w B g n c ps us wx) (hb : Below wx.heap.size wx wy) : AddI w B g n c ps us wy :=
  ⟨h.o.kept (row := none) (below_grown hb) (Classical.em _), h.l, h.m, fun t ht => (h.f t ht).below hb, h.b.trans (hb.mono h.b.size)⟩
theorem AddI.put {w wx : World} {B g n c : Nat} {ps : List Pol} {us : List It} (h : AddI w B g n c ps us wx) (hB : w.heap.size ≤ B) {i : Nat} {t t' : It} (hi : us[i]? = some t) (hp : t'.p = t.p) (ht : t'.off g wx) : AddI w B g n c ps (us.set i t') (wx.setCells g (i * 9) t'.cells) := by
  have hil := (List.getElem?_eq_some_iff.1 hi).1
  refine ⟨?_, by rw [List.length_set]; exact h.l, ?_, fun x hx => ?_, below_setCells ?_ _ _ _ h.b⟩
  · have := own_setCells t'.cells wx (i * 9) _ h.o
    rw [flat_set us i t' hil] at this
    exact this
  · rw [← h.m, List.map_set]
    apply List.ext_getElem?
    intro j
    by_cases e : i = j
    · subst e
      rw [List.getElem?_set_self (by rw [List.length_map]; exact hil), List.getElem?_map, hi, hp]
      rfl
    · rw [List.getElem?_set_ne e]
  · rcases List.mem_or_eq_of_mem_set hx with hx | rfl
    · exact (h.f x hx).setCells _ _
    · exact ht.setCells _ _
  · have := (h.o.lt g rfl).1
    omega
theorem AddI.own {w wx : World} {B g n c : Nat} {ps : List Pol} {us : List It} (h : AddI w B g n c ps us wx) : OwnP wx B (.slice (some ⟨g, 0, none⟩) n c) us := ⟨by rw [h.l]; exact h.o, fun t ht => (h.f t ht).k⟩
/-- What is asked of chain.Add. -/
def AddC : Prop := ∀ (v : Value) (ts : List It) (x : It) (w : World), (∀ t ∈ ts, fits t.p) → fits x.p → ts.length ≤ 1000 → PolRow w v ts → x.ok w →
  Calls Try.prog 12 #[v, x.val] w fun e w' => (∃ (E n : Int) (u : Value), e = .returned (.tuple #[u, .int .i64 E]) ∧ Chk (ts.map It.p ++ [x.p]) E n ∧ (E = 0 → ∃ us, OwnP w' w.heap.size u us ∧ us.map It.p = ts.map It.p ++ [x.p]) ∧ (E ≠ 0 → u = .slice none 0 0)) ∧ Below w.heap.size w w'

set_option maxRecDepth 100000 in
set_option maxHeartbeats 16000000 in
theorem add_any (hC : CheckC) : AddC := by
  intro v ts x w hf hfx hl hv hx
  obtain ⟨i0, hi, hz0, hz1, hz2⟩ := info_parts infoPol
  have HV := hide hv
  have HX := hide hx
  obtain ⟨p, cap, rfl, hcap, hp0, -⟩ := hv
  obtain ⟨N, hN⟩ : ∃ N, N = ts.length := ⟨_, rfl⟩
  obtain ⟨Q, v1, v2, v3, v4, v5, l1, l2, l3, l4, l5⟩ := x
  have HXV : Hid (PolV w v1 v2 v3 v4 v5 Q l1 l2 l3 l4 l5) := hide hx
  obtain ⟨A, hA⟩ : ∃ A : Array Value, A = #[.int .i64 Q.ep, v1, v2, v3, v4, v5, .int .i64 Q.dp, .int .i64 Q.nd, .int .i64 Q.bt] := ⟨_, rfl⟩
  obtain ⟨w1, hw1⟩ : ∃ w1, w1 = w.alloc (.cells A 30) := ⟨_, rfl⟩
  have H1 : Hid (BoxP w A w1) := hide (by rw [hw1]; exact ⟨new_block _ _ _, bel_alloc (Below.refl _ _) _⟩)
  have SK : Hid (∀ wx, BoxP w A wx → wx.cell? ⟨w.heap.size, 0, none⟩ = some (.int .i64 Q.ep) ∧ wx.cell? ⟨w.heap.size, 1, none⟩ = some (v1) ∧ wx.cell? ⟨w.heap.size, 2, none⟩ = some (v2) ∧ wx.cell? ⟨w.heap.size, 3, none⟩ = some (v3) ∧ wx.cell? ⟨w.heap.size, 4, none⟩ = some (v4) ∧ wx.cell? ⟨w.heap.size, 5, none⟩ = some (v5) ∧ wx.cell? ⟨w.heap.size, 6, none⟩ = some (.int .i64 Q.dp) ∧ wx.cell? ⟨w.heap.size, 7, none⟩ = some (.int .i64 Q.nd) ∧ wx.cell? ⟨w.heap.size, 8, none⟩ = some (.int .i64 Q.bt) ∧ Hid (BoxP w A wx)) := hide (fun wx h => ⟨h.cell 0 _ (by rw [hA]; rfl), h.cell 1 _ (by rw [hA]; rfl), h.cell 2 _ (by rw [hA]; rfl), h.cell 3 _ (by rw [hA]; rfl), h.cell 4 _ (by rw [hA]; rfl), h.cell 5 _ (by rw [hA]; rfl), h.cell 6 _ (by rw [hA]; rfl), h.cell 7 _ (by rw [hA]; rfl), h.cell 8 _ (by rw [hA]; rfl), hide h⟩)
  have SB : Hid (∀ wx, (wx.cell? ⟨w.heap.size, 0, none⟩ = some (.int .i64 Q.ep) ∧ wx.cell? ⟨w.heap.size, 1, none⟩ = some (v1) ∧ wx.cell? ⟨w.heap.size, 2, none⟩ = some (v2) ∧ wx.cell? ⟨w.heap.size, 3, none⟩ = some (v3) ∧ wx.cell? ⟨w.heap.size, 4, none⟩ = some (v4) ∧ wx.cell? ⟨w.heap.size, 5, none⟩ = some (v5) ∧ wx.cell? ⟨w.heap.size, 6, none⟩ = some (.int .i64 Q.dp) ∧ wx.cell? ⟨w.heap.size, 7, none⟩ = some (.int .i64 Q.nd) ∧ wx.cell? ⟨w.heap.size, 8, none⟩ = some (.int .i64 Q.bt) ∧ Hid (BoxP w A wx)) → BoxP w A wx) := hide (fun wx h => h.2.2.2.2.2.2.2.2.2.out)
  rw [hA] at hw1
  show Calls Try.prog 12 #[.slice p ts.length cap, pval Q v1 v2 v3 v4 v5] w _
  rw [← hN] at hl hcap ⊢
  have b0 : (0 : Int) ≤ (N : Int) := by omega
  have b1 : (N : Int) ≤ (cap : Int) := by omega
  obtain ⟨p1, q1, rfl, -, -⟩ := HXV.out.s1
  obtain ⟨p2, q2, rfl, -, -⟩ := HXV.out.s2
  obtain ⟨p3, q3, rfl, -, -⟩ := HXV.out.s3
  obtain ⟨p4, q4, rfl, -, -⟩ := HXV.out.s4
  obtain ⟨p5, q5, rfl, -, -⟩ := HXV.out.s5
  have HN := hide hN
  clear hN hA
  go_enter Try.func12, Try.ntmps12
  go_upto_region 1 with fail
  rw [← hw1]
  clear hw1
  refine wp_region_held_drew (S := (fun wx => wx.cell? ⟨w.heap.size, 0, none⟩ = some (.int .i64 Q.ep) ∧ wx.cell? ⟨w.heap.size, 1, none⟩ = some (.slice p1 l1.length q1) ∧ wx.cell? ⟨w.heap.size, 2, none⟩ = some (.slice p2 l2.length q2) ∧ wx.cell? ⟨w.heap.size, 3, none⟩ = some (.slice p3 l3.length q3) ∧ wx.cell? ⟨w.heap.size, 4, none⟩ = some (.slice p4 l4.length q4) ∧ wx.cell? ⟨w.heap.size, 5, none⟩ = some (.slice p5 l5.length q5) ∧ wx.cell? ⟨w.heap.size, 6, none⟩ = some (.int .i64 Q.dp) ∧ wx.cell? ⟨w.heap.size, 7, none⟩ = some (.int .i64 Q.nd) ∧ wx.cell? ⟨w.heap.size, 8, none⟩ = some (.int .i64 Q.bt) ∧ Hid (BoxP w A wx))) (by kernel_rfl) (SK.out _ (H1.out.keep ((Below.refl _ _).drew))) (fun hHeld => ?_)
  refine wpAnyH_at (i := 0) (v := ?vw0) (a1 := ?xw0) rfl (by kernel_rfl) (by kernel_rfl) (by kernel_rfl) (fun _ _ _ h => h) (Or.inl ⟨by rfl, ?yw0⟩) (by assumption) ?hw0 ?zw0
  case yw0 => (intro w hSw; (try dsimp only at hSw); go_simp; try (with_reducible rfl))
  case hw0 => (go_simp; exact rfl)
  case zw0 =>
  refine wpAnyH_at (i := 1) (v := ?vw1) (a1 := ?xw1) rfl (by kernel_rfl) (by kernel_rfl) (by kernel_rfl) (fun _ _ _ h => h) (Or.inl ⟨by rfl, ?yw1⟩) (by assumption) ?hw1 ?zw1
  case yw1 => (intro w hSw; (try dsimp only at hSw); go_simp; try (with_reducible rfl))
  case hw1 => (go_simp; exact rfl)
  case zw1 =>
  refine wpAnyH_at (i := 2) (v := ?vw2) (a1 := ?xw2) rfl (by kernel_rfl) (by kernel_rfl) (by kernel_rfl) (fun _ _ _ h => h) (Or.inl ⟨by rfl, ?yw2⟩) (by assumption) ?hw2 ?zw2
  case yw2 => (intro w hSw; (try dsimp only at hSw); go_simp; try (with_reducible rfl))
  case hw2 => (go_simp; exact rfl)
  case zw2 =>
  refine wpAnyH_at (i := 3) (v := ?vw3) (a1 := ?xw3) rfl (by kernel_rfl) (by kernel_rfl) (by kernel_rfl) (fun _ _ _ h => h) (Or.inl ⟨by rfl, ?yw3⟩) (by assumption) ?hw3 ?zw3
  case yw3 => (intro w hSw; (try dsimp only at hSw); go_simp; try (with_reducible rfl))
  case hw3 => (go_simp; exact rfl)
  case zw3 =>
  refine wpAnyH_at (i := 4) (v := ?vw4) (a1 := ?xw4) rfl (by kernel_rfl) (by kernel_rfl) (by kernel_rfl) (fun _ _ _ h => h) (Or.inl ⟨by rfl, ?yw4⟩) (by assumption) ?hw4 ?zw4
  case yw4 => (intro w hSw; (try dsimp only at hSw); go_simp; try (with_reducible rfl))
  case hw4 => (go_simp; exact rfl)
  case zw4 =>
  refine wpAnyH_at (i := 5) (v := ?vw5) (a1 := ?xw5) rfl (by kernel_rfl) (by kernel_rfl) (by kernel_rfl) (fun _ _ _ h => h) (Or.inl ⟨by rfl, ?yw5⟩) (by assumption) ?hw5 ?zw5
  case yw5 => (intro w hSw; (try dsimp only at hSw); go_simp; try (with_reducible rfl))
  case hw5 => (go_simp; exact rfl)
  case zw5 =>
  refine wpAnyH_at (i := 6) (v := ?vw6) (a1 := ?xw6) rfl (by kernel_rfl) (by kernel_rfl) (by kernel_rfl) (fun _ _ _ h => h) (Or.inl ⟨by rfl, ?yw6⟩) (by assumption) ?hw6 ?zw6
  case yw6 => (intro w hSw; (try dsimp only at hSw); go_simp; try (with_reducible rfl))
  case hw6 => (go_simp; exact rfl)
  case zw6 =>
  refine wpAnyH_ready (rs := [7]) (by kernel_rfl) (by simp) ?_
  refine AllReadyH.cons rfl (fun K hK => ?_) AllReadyH.nil
  go_simp
  refine hK.out _ _ (SK.out _ (H1.out.keep ((bel_alloc (Below.refl _ _) _).drew))) (fun hHeld2 => ?_)
  clear hK K hHeld
  obtain ⟨w2, hw2⟩ : ∃ w2, w2 = (w1.alloc (.cells #[.int .i64 Q.ep, .slice p1 l1.length q1, .slice p2 l2.length q2, .slice p3 l3.length q3, .slice p4 l4.length q4, .slice p5 l5.length q5, .int .i64 Q.dp, .int .i64 Q.nd, .int .i64 Q.bt] 30)).drew := ⟨_, rfl⟩
  have H2 : Hid (BoxP w A w2) := hide (by rw [hw2]; exact H1.out.keep ((bel_alloc (Below.refl _ _) _).drew))
  have HC2 : Hid (∀ j u, ([.int .i64 Q.ep, .slice p1 l1.length q1, .slice p2 l2.length q2, .slice p3 l3.length q3, .slice p4 l4.length q4, .slice p5 l5.length q5, .int .i64 Q.dp, .int .i64 Q.nd, .int .i64 Q.bt] : List Value)[j]? = some u → w2.cell? ((⟨w1.heap.size, 0, none⟩ : Addr).add j) = some u) := hide (fun j u hj => by
    rw [hw2, add_plain, Nat.zero_add]
    have hbk : ((w1.alloc (.cells #[.int .i64 Q.ep, .slice p1 l1.length q1, .slice p2 l2.length q2, .slice p3 l3.length q3, .slice p4 l4.length q4, .slice p5 l5.length q5, .int .i64 Q.dp, .int .i64 Q.nd, .int .i64 Q.bt] 30)).drew).heap[w1.heap.size]? = some (.cells #[.int .i64 Q.ep, .slice p1 l1.length q1, .slice p2 l2.length q2, .slice p3 l3.length q3, .slice p4 l4.length q4, .slice p5 l5.length q5, .int .i64 Q.dp, .int .i64 Q.nd, .int .i64 Q.bt] 30 (0, 0)) := new_block _ _ _
    exact tag_cell hbk j u (by rw [List.getElem?_toArray]; exact hj))
  have HV2 := hide (HV.out.below H2.out.2)
  rw [← hw2] at hHeld2
  rw [← hw2]
  clear hw2
  refine wpAnyH_ready (rs := [8]) (by kernel_rfl) (by simp) ?_
  refine AllReadyH.cons rfl (fun K hK => ?_) AllReadyH.nil
  rw [if_pos (by rfl)]
  refine wp_append_grows w2 _ _ 22 rfl 30 i0 _ 9 152 Try.underlying22 hi hz0 hz1 hz2 rfl (by decide) p N N (flat ts) rfl (fun h => by have := hp0 h; omega) (by rw [flat_len, ← HN.out]) HV2.out.flat ⟨w1.heap.size, 0, none⟩ 1 1 [.int .i64 Q.ep, .slice p1 l1.length q1, .slice p2 l2.length q2, .slice p3 l3.length q3, .slice p4 l4.length q4, .slice p5 l5.length q5, .int .i64 Q.dp, .int .i64 Q.nd, .int .i64 Q.bt] rfl rfl HC2.out (by simp [Value.oneCell']) (by omega) (by unfold maxLen; omega) (by omega) ?_
  intro u3 w3 hown3 hg3
  have hb3 : Below w2.heap.size w2 w3 := (Below.refl _ _).grown hg3 (Nat.le_refl _) (fun k hk => by cases hk)
  have H3 := hide (H2.out.keep hb3)
  obtain ⟨g, c, rfl⟩ : ∃ g c, u3 = .slice (some ⟨g, 0, none⟩) (N + 1) c := by
    rcases hown3.2 with ⟨_, hz⟩ | ⟨g, cap, cur, e, _⟩
    · omega
    · exact ⟨g, cap, e⟩
  obtain ⟨ps, hps⟩ : ∃ ps, ps = ts.map It.p ++ [Q] := ⟨_, rfl⟩
  obtain ⟨B, hB⟩ : ∃ B, B = w2.heap.size := ⟨_, rfl⟩
  obtain ⟨us0, hus0⟩ : ∃ us0 : List It, us0 = ts ++ [⟨Q, .slice p1 l1.length q1, .slice p2 l2.length q2, .slice p3 l3.length q3, .slice p4 l4.length q4, .slice p5 l5.length q5, l1, l2, l3, l4, l5⟩] := ⟨_, rfl⟩
  have hwB : w.heap.size ≤ B := by rw [hB]; exact H2.out.2.size
  have HI : Hid (AddI w B g (N + 1) c ps us0 w3) := hide (by
    have hg0 := (hown3.lt g rfl).1
    have hw0 := H2.out.2.size
    refine ⟨?_, by rw [hus0, List.length_append, ← HN.out]; rfl, by rw [hus0, hps, List.map_append]; rfl, fun t ht => ?_, H3.out.2⟩
    · rw [hus0, flat_app, flat_one, hB]
      exact hown3
    · rw [hus0] at ht
      have hok : t.ok w := by
        rcases List.mem_append.1 ht with ht | ht
        · obtain ⟨j, hj⟩ := List.getElem?_of_mem ht
          obtain ⟨b, off, cp, -, -, -, hk⟩ := HV.out.at hj
          exact hk j t hj
        · rw [List.mem_singleton.1 ht]
          exact HXV.out
      exact (off_old hok (g := g) (by omega)).below H3.out.2)
  have HFU : Hid ((∀ t ∈ us0, fits t.p) ∧ us0.length ≤ 100000) := hide (by
    refine ⟨fun t ht => ?_, ?_⟩
    · rw [hus0] at ht
      rcases List.mem_append.1 ht with ht | ht
      · exact hf t ht
      · rw [List.mem_singleton.1 ht]
        exact hfx
    · rw [hus0, List.length_append, ← HN.out]
      simp
      omega)
  have CC := hide (hC (.slice (some ⟨g, 0, none⟩) (N + 1) c) us0 w3 HFU.out.1 HFU.out.2 HI.out.own.row)
  rw [show us0.map It.p = ps from HI.out.m] at CC
  have HPS := hide hps
  have HWB := hide hwB
  have HFP : Hid (∀ q ∈ ps, fits q) := hide (fun q hq => by
    rw [← HI.out.m] at hq
    obtain ⟨t, ht, rfl⟩ := List.mem_map.1 hq
    exact HFU.out.1 t ht)
  refine hK.out _ _ (SK.out _ H3.out) (fun hHeld4 => ?_)
  clear hK K hg3 hown3 hb3 hHeld2 HV HV2 HC2 hf hfx hC hx HX HXV hB hus0 hps hwB HFU H1 H2
  refine wpAnyH_at (i := 9) (v := ?vw9) (a1 := ?xw9) rfl (by kernel_rfl) (by kernel_rfl) (by kernel_rfl) (fun _ _ _ h => h) (Or.inl ⟨by rfl, ?yw9⟩) (by assumption) ?hw9 ?zw9
  case yw9 => (intro w hSw; (try dsimp only at hSw); go_simp; try (with_reducible rfl))
  case hw9 => (go_simp; exact rfl)
  case zw9 =>
  refine wpAnyH_done (by kernel_rfl) ?_ _
  clear hHeld4 SK SB H3
  go_wp2_with fail
  refine CC.out.mono ?_
  rintro e w4 ⟨⟨E, n, rfl, hchk⟩, h4⟩
  have HI4 := hide (HI.out.below h4)
  have HK := hide hchk
  clear h4 hchk CC HI
  by_cases h0 : E = 0
  · subst h0
    go_wp2_with fail
    go_loopg [29] (N + 1) (fun gh v29 wx => ∃ (i : Nat) (us : List It), i + gh = N + 1 ∧ v29 = .int .i64 (i : Int) ∧ Hid (AddI w B g (N + 1) c ps us wx))
    case atStart => exact ⟨0, us0, by omega, rfl, HI4⟩
    case round =>
      obtain ⟨i, us, hi', rfl, HU⟩ := hrel
      clear HI4
      by_cases hlt : i < N + 1
      · obtain ⟨t, ht⟩ : ∃ t, us[i]? = some t := ⟨_, List.getElem?_eq_getElem (by rw [HU.out.l]; exact hlt)⟩
        have C5 := hide (own_any t wr (HU.out.f t (List.mem_of_getElem? ht)).k (HFP.out _ (by rw [← HU.out.m]; exact List.mem_map_of_mem (List.mem_of_getElem? ht))))
        obtain ⟨y0, y1, y2, y3, y4, y5, y6, y7, y8⟩ := nine (own_range HU.out.o ht)
        rw [Nat.zero_add] at y0 y1 y2 y3 y4 y5 y6 y7 y8
        have HT := hide ht
        have hgl := (HU.out.o.lt g rfl).2
        clear ht
        go_wp2_with fail
        rename_i kk
        refine C5.out.mono ?_
        rintro e w5 ⟨⟨t', rfl, hp, hok, hnew⟩, h5⟩
        refine kk _ _ ?_
        clear kk
        have H5 := hide (HU.out.below h5)
        have HOF : Hid (t'.off g w5) := hide (off_new hok hnew hgl)
        have hone := It.one hok
        have HTH : Hid (w5.there g (i * 9) 9) := hide (fun j hj => ⟨by
          have hr := own_range H5.out.o HT.out
          rw [Nat.zero_add] at hr
          exact hr.isSome j hj, H5.out.o.frozenAt _⟩)
        have HP := hide hp
        clear y0 y1 y2 y3 y4 y5 y6 y7 y8 hok hnew h5 HU C5 hp
        go_step
        rename_i kk
        go_simp
        refine kk _ _ ?_
        clear kk
        refine wpList_store_mid rfl 30 _ _ rfl g (i * 9) #[.int .i64 t'.p.ep, t'.v1, t'.v2, t'.v3, t'.v4, t'.v5, .int .i64 t'.p.dp, .int .i64 t'.p.nd, .int .i64 t'.p.bt] rfl rfl HTH.out (by kernel_rfl) hone ?_
        have H6 : Hid (AddI w B g (N + 1) c ps (us.set i t') (w5.setCells g (i * 9) (#[.int .i64 t'.p.ep, t'.v1, t'.v2, t'.v3, t'.v4, t'.v5, .int .i64 t'.p.dp, .int .i64 t'.p.nd, .int .i64 t'.p.bt] : Array Value).toList)) := hide (H5.out.put HWB.out HT.out HP.out HOF.out)
        obtain ⟨w6, hw6⟩ : ∃ w6, w6 = w5.setCells g (i * 9) (#[.int .i64 t'.p.ep, t'.v1, t'.v2, t'.v3, t'.v4, t'.v5, .int .i64 t'.p.dp, .int .i64 t'.p.nd, .int .i64 t'.p.bt] : Array Value).toList := ⟨_, rfl⟩
        rw [← hw6] at H6 ⊢
        clear hw6 H5 HOF HTH hone
        go_wp2_with fail
        go_roundg (N + 1 - i - 1)
        case measure => omega
        case rel => exact ⟨i + 1, us.set i t', by omega, by first | rfl | simp, H6⟩
      · have HE : Hid (us.map It.p = ps ∧ OwnP wr B (.slice (some ⟨g, 0, none⟩) (N + 1) c) us ∧ Below w.heap.size w wr) := hide ⟨HU.out.m, HU.out.own, HU.out.b⟩
        clear HU
        go_wp2_with fail
        go_ret2
        rw [← HPS.out]
        exact ⟨⟨0, n, _, rfl, HK.out, fun _ => ⟨us, ⟨own_mono HE.out.2.1.o HWB.out, HE.out.2.1.k⟩, HE.out.1⟩, fun h => absurd rfl h⟩, HE.out.2.2⟩
  · have hne : (E != 0) = true := by simpa using h0
    have HN0 := hide h0
    clear h0
    go_wp2_with fail
    go_ret2
    rw [← HPS.out]
    exact ⟨⟨E, n, _, rfl, HK.out, fun h => absurd h HN0.out, fun _ => rfl⟩, HI4.out.b⟩
end Go.Proofs.Ytlabdbkmlkmnkaa
