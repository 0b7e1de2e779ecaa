/-
  The document's put, walked.
-/
import Derived.Test.YtddphbbmccfblaaDG1
import Derived.Test.YtddphbbmccfblaaDU
import Derived.Maps.AppendAt
namespace Go.Proofs.Ytddphbbmccfblaa
open Go.RowKit
open Utf1
open Pol8 hiding text right Right
open Dg16

theorem dless_is (a b : ByteArray) : Op.bytesLess a.toList b.toList = lt (bl a) (bl b) := by
  rw [ByteArray.toList_eq, ByteArray.toList_eq]
  rfl
theorem dstep_wanted {ops : Array Oper} {o : Oper} {a : Act} {w : World} {K : Act → World → Prop} {Q : Exit → Act → World → Prop} {E : Prop}
    (hg : o.guard = none) (h : Oper.wp Try.prog o a w K Q) : if Region.wanted o (yielded ops a.tmps) = true then Oper.wp Try.prog o a w K Q else E := by
  have hw : Region.wanted o (yielded ops a.tmps) = true := by simp [Region.wanted, hg]
  rw [if_pos hw]
  exact h
set_option maxRecDepth 100000 in
/-- Strings behind a row of one's own: the step. -/
theorem dwp_strs {w : World} {o : Oper} {a : Act} {K : Act → World → Prop} {Q : Exit → Act → World → Prop} (s x : Operand)
    (ho : o.op = .call { callee := .builtin .append, args := #[s, x], argTypes := #[22, 22] })
    (base : Nat) (v : Value) (n : Nat) (xs : List ByteArray) (hs : a.eval s = v) (hown : w.ownsRow base 9 1 v n (strV xs))
    (u : Value) (l : List ByteArray) (hx : a.eval x = u) (hl : StrArg w u l) (h63 : n + l.length ≤ 100000000) (hbase : base ≤ w.heap.size)
    (h : ∀ v' w', w'.ownsRow base 9 1 v' (n + l.length) (strV (xs ++ l)) → w.grownBy w' v.ownBlock → (v'.ownBlock = v.ownBlock ∨ v'.ownBlock = some w.heap.size) → K (a.put o.dst v') w') : o.wp Try.prog a w K Q := by
  obtain ⟨i0, hi, hz0, hz1, hz2⟩ : ∃ i : TypeInfo, Try.prog.info? 9 = some i ∧ i.zero = some (.string ⟨#[]⟩) ∧ i.size = 1 ∧ i.bytes = 16 := by
    have h := infoStr
    cases hi : Try.prog.info? 9 with
    | none => rw [hi] at h; simp at h
    | some i =>
      rw [hi] at h
      simp at h
      exact ⟨i, rfl, h.1, h.2.1, h.2.2⟩
  obtain ⟨p, cap, rfl, h0, hc⟩ := hl
  cases p with
  | none =>
    have hl0 : l = [] := by
      cases l with
      | nil => rfl
      | cons y l =>
        obtain ⟨_, _, e, _⟩ := hc 0 y rfl
        cases e
    subst hl0
    rw [h0 rfl] at hx
    have hx : a.eval x = .slice none 0 0 := hx
    have hrun := run_append_owned_none (P := Try.prog) w base 22 o.type 9 i0 1 Try.underlying22 hi v n _ hown
    unfold Oper.wp execOp
    simp only [ho, resolve, invoke, builtin, Sem.run_bind, Sem.run_pure, Result.andThen_ok, List.map_toArray, List.map_cons, List.map_nil, hs, hx, hrun]
    refine h v w ?_ ⟨rfl, rfl, rfl, Nat.le_refl _, fun _ _ _ => rfl⟩ (.inl rfl)
    rw [List.append_nil]
    exact hown
  | some ad =>
    obtain ⟨v', w', hr, h2, h3, h4, h5⟩ := run_append_own_at (P := Try.prog) w base 22 o.type 9 i0 _ 1 16 Try.underlying22 hi hz0 hz1 hz2 rfl (by decide) v n _ hown ad l.length cap (strV l) (by rw [strV_len, Nat.mul_one]) (fun j u hj => by
      unfold strV at hj
      rw [List.getElem?_map] at hj
      cases hlj : l[j]? with
      | none => rw [hlj] at hj; cases hj
      | some y =>
        rw [hlj] at hj
        obtain ⟨b, off, e, hcell⟩ := hc j y hlj
        injection e with e
        subst e
        rw [add_plain, hcell]
        exact hj) (fun y hy => by
      unfold strV at hy
      obtain ⟨z, _, rfl⟩ := List.mem_map.1 hy
      rfl) (by unfold maxLen; omega) (by omega) hbase
    unfold Oper.wp execOp
    simp only [ho, resolve, invoke, builtin, Sem.run_bind, Sem.run_pure, Result.andThen_ok, List.map_toArray, List.map_cons, List.map_nil, hs, hx, hr]
    refine h v' w' ?_ h3 h5
    rw [strV_app]
    exact h2
/-- A row of one text, in a block of its own. -/
structure XB (wx : World) (x : ByteArray) (k : Nat) : Prop where
  b : wx.heap[k]? = some (.cells #[.string x] 9 (0, 0))
theorem XB.arg {wx : World} {x : ByteArray} {k : Nat} (h : XB wx x k) : StrArg wx (.slice (some ⟨k, 0, none⟩) 1 1) [x] :=
  ⟨some ⟨k, 0, none⟩, 1, rfl, fun h => (by cases h), fun i s hi => ⟨k, 0, rfl, by
    match i, hi with
    | 0, hi =>
      injection hi with hi
      subst hi
      unfold World.cell?
      rw [h.b]
      rfl
    | i + 1, hi => simp at hi⟩⟩
theorem XB.lt {wx : World} {x : ByteArray} {k : Nat} (h : XB wx x k) : k < wx.heap.size := (Array.getElem?_eq_some_iff.1 h.b).1
theorem XB.new (wx : World) (x : ByteArray) : XB (wx.alloc (.cells #[.string x] 9)) x wx.heap.size := ⟨heap_alloc_new _ _⟩
theorem XB.alloc {wx : World} {x : ByteArray} {k : Nat} (h : XB wx x k) (o : Obj) : XB (wx.alloc o) x k := ⟨by rw [Below.heap_alloc _ _ _ h.lt]; exact h.b⟩
theorem XB.grown {wx wy : World} {x : ByteArray} {k : Nat} {B : Option Nat} (h : XB wx x k) (hg : wx.grownBy wy B) (hn : B ≠ some k) : XB wy x k := ⟨(hg.block k h.lt (fun e => hn e.symm)).trans h.b⟩
/-- A slice of strings that is nil, if it is empty. -/
def StrNe (w : World) (v : Value) (ss : List ByteArray) : Prop := StrCap w v ss ∧ (ss = [] → v = .slice none 0 0)
theorem StrNe.below {w w' : World} {v : Value} {ss : List ByteArray} (h : StrNe w v ss) (hb : Below w.heap.size w w') : StrNe w' v ss := ⟨h.1.below hb, h.2⟩
theorem strArg_take {w : World} {b o n c : Nat} {ss : List ByteArray} (h : StrArg w (.slice (some ⟨b, o, none⟩) n c) ss) (k : Nat) (hk : k ≤ n) : StrArg w (.slice (some ⟨b, o, none⟩) k c) (ss.take k) := by
  obtain ⟨p, cap, e, h0, hc⟩ := h
  injection e with e1 e2 e3
  refine ⟨_, c, by rw [List.length_take, Nat.min_eq_left (by omega)], fun h => (by cases h), fun i s hi => ?_⟩
  have hik : i < k := by
    have := (List.getElem?_eq_some_iff.1 hi).1
    rw [List.length_take] at this
    omega
  rw [List.getElem?_take, if_pos hik] at hi
  obtain ⟨b', o', e4, hx⟩ := hc i s hi
  rw [← e1] at e4
  injection e4 with e4
  injection e4 with e5 e6
  subst e5 e6
  exact ⟨_, _, rfl, hx⟩
theorem strArg_drop {w : World} {b o n c c' : Nat} {ss : List ByteArray} (h : StrArg w (.slice (some ⟨b, o, none⟩) n c) ss) (k : Nat) : StrArg w (.slice (some ⟨b, o + k, none⟩) (n - k) c') (ss.drop k) := by
  obtain ⟨p, cap, e, h0, hc⟩ := h
  injection e with e1 e2 e3
  refine ⟨_, c', by rw [List.length_drop, e2], fun h => (by cases h), fun i s hi => ?_⟩
  rw [List.getElem?_drop] at hi
  obtain ⟨b', o', e4, hx⟩ := hc (k + i) s hi
  rw [← e1] at e4
  injection e4 with e4
  injection e4 with e5 e6
  subst e5 e6
  exact ⟨_, _, rfl, by rw [show o + k + i = o + (k + i) from by omega]; exact hx⟩
theorem strArg_none {w : World} {b o c : Nat} : StrArg w (.slice (some ⟨b, o, none⟩) 0 c) [] := ⟨_, c, rfl, fun h => (by cases h), fun i s hi => by simp at hi⟩
/-- What put tells. -/
def PutQ (w : World) (ss : List ByteArray) (x : ByteArray) (e : Ending) (w' : World) : Prop := (∃ v' R, e = .returned v' ∧ StrNe w' v' R ∧ R.map bl = putR (ss.map bl) (bl x)) ∧ Below w.heap.size w w'
theorem put_none {ss : List ByteArray} {x : ByteArray} {k : Nat} (hk : k ≤ ss.length) (h1 : ∀ i y, i < k → ss[i]? = some y → lt (bl y) (bl x) = true) (h2 : ∀ y, ss[k]? = some y → lt (bl y) (bl x) = false ∧ bl y ≠ bl x) : ((ss.take k ++ [x]) ++ ss.drop k).map bl = putR (ss.map bl) (bl x) := by
  rw [put_walk (ss.map bl) (bl x) k (by rw [List.length_map]; exact hk) (fun i a hi ha => ?_) (fun a ha => ?_), if_neg ?_]
  · rw [List.map_append, List.map_append, List.map_take, List.map_drop]
    show (_ ++ [bl x]) ++ _ = _
    rw [List.append_assoc]
    rfl
  · intro e
    rw [List.getElem?_map] at e
    cases hy : ss[k]? with
    | none => rw [hy] at e; cases e
    | some y =>
      rw [hy] at e
      injection e with e
      exact (h2 y hy).2 e
  · rw [List.getElem?_map] at ha
    cases hy : ss[i]? with
    | none => rw [hy] at ha; cases ha
    | some y =>
      rw [hy] at ha
      injection ha with ha
      subst ha
      exact h1 i y hi hy
  · rw [List.getElem?_map] at ha
    cases hy : ss[k]? with
    | none => rw [hy] at ha; cases ha
    | some y =>
      rw [hy] at ha
      injection ha with ha
      subst ha
      exact (h2 y hy).1
theorem put_there {ss : List ByteArray} {x y : ByteArray} {k : Nat} (h1 : ∀ i y, i < k → ss[i]? = some y → lt (bl y) (bl x) = true) (h2 : ss[k]? = some y) (h3 : bl y = bl x) : ss.map bl = putR (ss.map bl) (bl x) := by
  have hk := (List.getElem?_eq_some_iff.1 h2).1
  have e : (ss.map bl)[k]? = some (bl x) := by rw [List.getElem?_map, h2, ← h3]; rfl
  rw [put_walk (ss.map bl) (bl x) k (by rw [List.length_map]; omega) (fun i a hi ha => ?_) (fun a ha => ?_), if_pos e]
  · rw [List.getElem?_map] at ha
    cases hy : ss[i]? with
    | none => rw [hy] at ha; cases ha
    | some z =>
      rw [hy] at ha
      injection ha with ha
      subst ha
      exact h1 i z hi hy
  · rw [e] at ha
    injection ha with ha
    subst ha
    exact lt_irr _

set_option maxRecDepth 100000 in
set_option maxHeartbeats 16000000 in
theorem put_any (v : Value) (ss : List ByteArray) (x : ByteArray) (hl : ss.length ≤ 1000000) (w : World) (hv : StrNe w v ss) :
    Calls Try.prog 23 #[v, .string x] w fun e w' => PutQ w ss x e w' := by
  have BD : Hid (Below w.heap.size w w.drew) := hide ((Below.refl _ _).drew)
  by_cases hne : ss = []
  · have hv0 := hv.2 hne
    subst hv0
    subst hne
    have HT : Hid (StrArg w (.slice none 0 0) (([] : List ByteArray).take 0)) := hide (strArg_nil _)
    have HDR : Hid (StrArg w (.slice none 0 0) (([] : List ByteArray).drop 0)) := hide (strArg_nil _)
    have LT : Hid ((([] : List ByteArray).take 0).length ≤ 1000000) := hide (by simp)
    have LD : Hid ((([] : List ByteArray).drop 0).length ≤ 1000000) := hide (by simp)
    have L1 : Hid (([x] : List ByteArray).length ≤ 1) := hide (by simp)
    have HPUT : Hid ((((([] : List ByteArray).take 0) ++ [x]) ++ ([] : List ByteArray).drop 0).map bl = putR (([] : List ByteArray).map bl) (bl x)) := hide (put_none (Nat.le_refl _) (fun i y h => by omega) (fun y h => by simp at h))
    clear hv hl
    go_enter Try.func23, Try.ntmps23
    go_wp2_with fail
    go_loopg [5] 0 (fun g v5 wr => v5 = .int .i64 0 ∧ wr = w)
    case atStart => exact ⟨rfl, rfl⟩
    case round =>
      obtain ⟨hv5, hwr⟩ := hrel
      subst hv5
      have hwr2 := hwr.symm
      clear hwr
      subst hwr2
      go_wp2_with fail
      refine wp_region_until (m := 12) (S := (fun _ => True)) (by kernel_rfl) trivial (fun hHeld => ?_)
      obtain ⟨wd, hwd⟩ : ∃ z, z = w.drew := ⟨_, rfl⟩
      have BE : Hid (Below w.heap.size w wd) := hide (by rw [hwd]; exact BD.out)
      rw [← hwd]
      clear hwd
      refine wpU_at (i := 1) (v := ?vqa1) (a1 := ?xqa1) rfl (by kernel_rfl) (by kernel_rfl) (by kernel_rfl) (by kernel_rfl) (fun _ _ _ h => h) (Or.inl ⟨by rfl, ?yqa1⟩) trivial ?hqa1 ?zqa1
      case yqa1 => (intro w hSw; (try dsimp only at hSw); go_simp; try (with_reducible rfl))
      case hqa1 => (go_simp; exact rfl)
      case zqa1 =>
      refine wpU_at (i := 2) (v := ?vqa2) (a1 := ?xqa2) rfl (by kernel_rfl) (by kernel_rfl) (by kernel_rfl) (by kernel_rfl) (fun _ _ _ h => h) (Or.inl ⟨by rfl, ?yqa2⟩) trivial ?hqa2 ?zqa2
      case yqa2 => (intro w hSw; (try dsimp only at hSw); go_simp; try (with_reducible rfl))
      case hqa2 => (go_simp; exact rfl)
      case zqa2 =>
      refine wpU_at (i := 3) (v := ?vqa3) (a1 := ?xqa3) rfl (by kernel_rfl) (by kernel_rfl) (by kernel_rfl) (by kernel_rfl) (fun _ _ _ h => h) (Or.inl ⟨by rfl, ?yqa3⟩) trivial ?hqa3 ?zqa3
      case yqa3 => (intro w hSw; (try dsimp only at hSw); go_simp; try (with_reducible rfl))
      case hqa3 => (go_simp; exact rfl)
      case zqa3 =>
      refine wpU_at (i := 5) (v := ?vqa5) (a1 := ?xqa5) rfl (by kernel_rfl) (by kernel_rfl) (by kernel_rfl) (by kernel_rfl) (fun _ _ _ h => h) (Or.inl ⟨by rfl, ?yqa5⟩) trivial ?hqa5 ?zqa5
      case yqa5 => (intro w hSw; (try dsimp only at hSw); go_simp; try (with_reducible rfl))
      case hqa5 => (go_simp; exact rfl)
      case zqa5 =>
      refine wpU_at (i := 8) (v := ?vqa8) (a1 := ?xqa8) rfl (by kernel_rfl) (by kernel_rfl) (by kernel_rfl) (by kernel_rfl) (fun _ _ _ h => h) (Or.inl ⟨by rfl, ?yqa8⟩) trivial ?hqa8 ?zqa8
      case yqa8 => (intro w hSw; (try dsimp only at hSw); go_simp; try (with_reducible rfl))
      case hqa8 => (go_simp; exact rfl)
      case zqa8 =>
      refine wpU_at (i := 9) (v := ?vqa9) (a1 := ?xqa9) rfl (by kernel_rfl) (by kernel_rfl) (by kernel_rfl) (by kernel_rfl) (fun _ _ _ h => h) (Or.inl ⟨by rfl, ?yqa9⟩) trivial ?hqa9 ?zqa9
      case yqa9 => (intro w hSw; (try dsimp only at hSw); go_simp; try (with_reducible rfl))
      case hqa9 => (go_simp; exact rfl)
      case zqa9 =>
      refine wpU_at (i := 10) (v := ?vqa10) (a1 := ?xqa10) rfl (by kernel_rfl) (by kernel_rfl) (by kernel_rfl) (by kernel_rfl) (fun _ _ _ h => h) (Or.inl ⟨by rfl, ?yqa10⟩) trivial ?hqa10 ?zqa10
      case yqa10 => (intro w hSw; (try dsimp only at hSw); go_simp; try (with_reducible rfl))
      case hqa10 => (go_simp; exact rfl)
      case zqa10 =>
      refine wpU_ready (rs := [0, 6]) (by kernel_rfl) (by simp) ?_
      refine AllU.cons (by decide) rfl (fun K hK => ?_) (AllU.cons (by decide) rfl (fun K hK => ?_) AllU.nil)
      · go_simp
        try go_wp2_with fail
        obtain ⟨wa1, hwa1⟩ : ∃ z, z = wd.alloc (.cells #[] 9) := ⟨_, rfl⟩
        have B1 : Hid (Below w.heap.size w wa1) := hide (by rw [hwa1]; exact bel_alloc BE.out _)
        have O1 : Hid (wa1.ownsRow w.heap.size 9 1 (.slice (some ⟨wd.heap.size, 0, none⟩) 0 0) 0 (strV [])) := hide (by rw [hwa1]; exact own_empty _ _ BE.out.size)
        rw [← hwa1]
        clear hwa1
        refine hK.out _ _ trivial (fun hHeld2 => ?_)
        clear hK K hHeld
        have hHeld := hHeld2
        clear hHeld2
        refine wpU_ready (rs := [4, 6]) (by kernel_rfl) (by simp) ?_
        refine AllU.cons (by decide) rfl (fun K hK => ?_) (AllU.cons (by decide) rfl (fun K hK => ?_) AllU.nil)
        · refine dstep_wanted rfl (dwp_strs _ _ rfl w.heap.size _ 0 [] rfl O1.out _ (([] : List ByteArray).take 0) rfl (HT.out.below B1.out) (by have := LT.out; have := LT.out; have := LD.out;  have := L1.out; omega) B1.out.size ?_)
          intro v2 w2 ho2 hg2 hf2
          obtain ⟨nn2, hnn2⟩ : ∃ z, z = 0 + ((([] : List ByteArray).take 0) : List ByteArray).length := ⟨_, rfl⟩
          rw [← hnn2] at ho2
          obtain ⟨p2, c2, rfl, -⟩ := own_shape ho2
          have B2 : Hid (Below w.heap.size w w2) := hide (B1.out.grown hg2 B1.out.size (fun j hj => (O1.out.lt j hj).1))
          have O2 := hide ho2
          have O2 : Hid (w2.ownsRow w.heap.size 9 1 (.slice p2 nn2 c2) nn2 (strV (([] : List ByteArray).take 0))) := O2
          have E2 := hide hnn2
          clear ho2 hg2 hf2 hnn2
          try go_simp
          refine hK.out _ _ trivial (fun hHeld2 => ?_)
          clear hK K hHeld
          have hHeld := hHeld2
          clear hHeld2
          refine wpU_ready (rs := [6]) (by kernel_rfl) (by simp) ?_
          refine AllU.cons (by decide) rfl (fun K hK => ?_) AllU.nil
          go_simp
          try go_wp2_with fail
          obtain ⟨wa3, hwa3⟩ : ∃ z, z = w2.alloc (.cells #[.string x] 9) := ⟨_, rfl⟩
          have B3 : Hid (Below w.heap.size w wa3) := hide (by rw [hwa3]; exact bel_alloc B2.out _)
          have X3 : Hid (XB wa3 x w2.heap.size) := hide (by rw [hwa3]; exact XB.new _ _)
          have O3 : Hid (wa3.ownsRow w.heap.size 9 1 (.slice p2 nn2 c2) nn2 (strV (([] : List ByteArray).take 0))) := hide (by rw [hwa3]; exact O2.out.alloc _)
          have P3 : Hid ((Value.ownBlock (.slice p2 nn2 c2)) ≠ some w2.heap.size) := hide (fun e => by have h := (O2.out.lt _ e).2; omega)
          rw [← hwa3]
          clear hwa3
          refine hK.out _ _ trivial (fun hHeld2 => ?_)
          clear hK K hHeld
          have hHeld := hHeld2
          clear hHeld2
          refine wpU_ready (rs := [7]) (by kernel_rfl) (by simp) ?_
          refine AllU.cons (by decide) rfl (fun K hK => ?_) AllU.nil
          refine dstep_wanted rfl (dwp_strs _ _ rfl w.heap.size _ nn2 (([] : List ByteArray).take 0) rfl O3.out _ [x] rfl X3.out.arg (by have := L1.out; have := LT.out; have := LD.out; have h30 := E2.out; have := L1.out; omega) B3.out.size ?_)
          intro v4 w4 ho4 hg4 hf4
          obtain ⟨nn4, hnn4⟩ : ∃ z, z = nn2 + ([x] : List ByteArray).length := ⟨_, rfl⟩
          rw [← hnn4] at ho4
          obtain ⟨p4, c4, rfl, -⟩ := own_shape ho4
          have B4 : Hid (Below w.heap.size w w4) := hide (B3.out.grown hg4 B3.out.size (fun j hj => (O3.out.lt j hj).1))
          have O4 := hide ho4
          have E4 := hide hnn4
          clear ho4 hg4 hf4 hnn4
          try go_simp
          refine hK.out _ _ trivial (fun hHeld2 => ?_)
          clear hK K hHeld
          have hHeld := hHeld2
          clear hHeld2
          refine wpU_ready (rs := [11]) (by kernel_rfl) (by simp) ?_
          refine AllU.cons (by decide) rfl (fun K hK => ?_) AllU.nil
          refine dstep_wanted rfl (dwp_strs _ _ rfl w.heap.size _ nn4 ((([] : List ByteArray).take 0) ++ [x]) rfl O4.out _ (([] : List ByteArray).drop 0) rfl (HDR.out.below B4.out) (by have := LD.out; have := LT.out; have := LD.out; have h30 := E2.out; have h31 := E4.out; have := L1.out; omega) B4.out.size ?_)
          intro v5 w5 ho5 hg5 hf5
          obtain ⟨nn5, hnn5⟩ : ∃ z, z = nn4 + ((([] : List ByteArray).drop 0) : List ByteArray).length := ⟨_, rfl⟩
          rw [← hnn5] at ho5
          obtain ⟨p5, c5, rfl, -⟩ := own_shape ho5
          have B5 : Hid (Below w.heap.size w w5) := hide (B4.out.grown hg5 B4.out.size (fun j hj => (O4.out.lt j hj).1))
          have O5 := hide ho5
          have E5 := hide hnn5
          clear ho5 hg5 hf5 hnn5
          try go_simp
          refine hK.out _ _ trivial (fun hHeld2 => ?_)
          clear hK K hHeld
          have hHeld := hHeld2
          clear hHeld2
          refine wpU_ready (rs := [12]) (by kernel_rfl) (by simp) ?_
          refine AllU.last rfl (fun K hK => ?_)
          go_simp
          try go_wp2_with fail
          refine hK.out _ _ ?_
          clear hK K
          refine wpAny_done (by kernel_rfl) ?_ _
          go_wp2_with fail
          go_ret
          have HL : Hid (((((([] : List ByteArray).take 0) ++ [x]) ++ (([] : List ByteArray).drop 0)) : List ByteArray).length = nn5) := hide (by have h1 := LT.out; have h2 := LD.out; have h30 := E2.out; have h31 := E4.out; have h32 := E5.out; simp only [List.length_append, List.length_cons, List.length_nil] at *; omega)
          exact ⟨⟨_, _, rfl, ⟨strCap_own (B := w.heap.size) (by rw [HL.out]; exact O5.out), fun e => by have := HL.out; rw [e] at this; simp at e⟩, HPUT.out⟩, B5.out⟩
        · go_simp
          try go_wp2_with fail
          obtain ⟨wa6, hwa6⟩ : ∃ z, z = wa1.alloc (.cells #[.string x] 9) := ⟨_, rfl⟩
          have B6 : Hid (Below w.heap.size w wa6) := hide (by rw [hwa6]; exact bel_alloc B1.out _)
          have X6 : Hid (XB wa6 x wa1.heap.size) := hide (by rw [hwa6]; exact XB.new _ _)
          have O6 : Hid (wa6.ownsRow w.heap.size 9 1 (.slice (some ⟨wd.heap.size, 0, none⟩) 0 0) 0 (strV [])) := hide (by rw [hwa6]; exact O1.out.alloc _)
          have P6 : Hid ((Value.ownBlock (.slice (some ⟨wd.heap.size, 0, none⟩) 0 0)) ≠ some wa1.heap.size) := hide (fun e => by have h := (O1.out.lt _ e).2; omega)
          rw [← hwa6]
          clear hwa6
          refine hK.out _ _ trivial (fun hHeld2 => ?_)
          clear hK K hHeld
          have hHeld := hHeld2
          clear hHeld2
          refine wpU_ready (rs := [4]) (by kernel_rfl) (by simp) ?_
          refine AllU.cons (by decide) rfl (fun K hK => ?_) AllU.nil
          refine dstep_wanted rfl (dwp_strs _ _ rfl w.heap.size _ 0 [] rfl O6.out _ (([] : List ByteArray).take 0) rfl (HT.out.below B6.out) (by have := LT.out; have := LT.out; have := LD.out;  have := L1.out; omega) B6.out.size ?_)
          intro v7 w7 ho7 hg7 hf7
          obtain ⟨nn7, hnn7⟩ : ∃ z, z = 0 + ((([] : List ByteArray).take 0) : List ByteArray).length := ⟨_, rfl⟩
          rw [← hnn7] at ho7
          obtain ⟨p7, c7, rfl, -⟩ := own_shape ho7
          have B7 : Hid (Below w.heap.size w w7) := hide (B6.out.grown hg7 B6.out.size (fun j hj => (O6.out.lt j hj).1))
          have O7 := hide ho7
          have O7 : Hid (w7.ownsRow w.heap.size 9 1 (.slice p7 nn7 c7) nn7 (strV (([] : List ByteArray).take 0))) := O7
          have E7 := hide hnn7
          have X7 : Hid (XB w7 x wa1.heap.size) := hide (X6.out.grown hg7 P6.out)
          have P7 : Hid ((Value.ownBlock (.slice p7 nn7 c7)) ≠ some wa1.heap.size) := hide (fun e => by
            rcases hf7 with h | h
            · exact P6.out (h.symm.trans e)
            · rw [h] at e; injection e with e; have := X6.out.lt; omega)
          clear ho7 hg7 hf7 hnn7
          try go_simp
          refine hK.out _ _ trivial (fun hHeld2 => ?_)
          clear hK K hHeld
          have hHeld := hHeld2
          clear hHeld2
          refine wpU_ready (rs := [7]) (by kernel_rfl) (by simp) ?_
          refine AllU.cons (by decide) rfl (fun K hK => ?_) AllU.nil
          refine dstep_wanted rfl (dwp_strs _ _ rfl w.heap.size _ nn7 (([] : List ByteArray).take 0) rfl O7.out _ [x] rfl X7.out.arg (by have := L1.out; have := LT.out; have := LD.out; have h30 := E7.out; have := L1.out; omega) B7.out.size ?_)
          intro v8 w8 ho8 hg8 hf8
          obtain ⟨nn8, hnn8⟩ : ∃ z, z = nn7 + ([x] : List ByteArray).length := ⟨_, rfl⟩
          rw [← hnn8] at ho8
          obtain ⟨p8, c8, rfl, -⟩ := own_shape ho8
          have B8 : Hid (Below w.heap.size w w8) := hide (B7.out.grown hg8 B7.out.size (fun j hj => (O7.out.lt j hj).1))
          have O8 := hide ho8
          have E8 := hide hnn8
          clear ho8 hg8 hf8 hnn8
          try go_simp
          refine hK.out _ _ trivial (fun hHeld2 => ?_)
          clear hK K hHeld
          have hHeld := hHeld2
          clear hHeld2
          refine wpU_ready (rs := [11]) (by kernel_rfl) (by simp) ?_
          refine AllU.cons (by decide) rfl (fun K hK => ?_) AllU.nil
          refine dstep_wanted rfl (dwp_strs _ _ rfl w.heap.size _ nn8 ((([] : List ByteArray).take 0) ++ [x]) rfl O8.out _ (([] : List ByteArray).drop 0) rfl (HDR.out.below B8.out) (by have := LD.out; have := LT.out; have := LD.out; have h30 := E7.out; have h31 := E8.out; have := L1.out; omega) B8.out.size ?_)
          intro v9 w9 ho9 hg9 hf9
          obtain ⟨nn9, hnn9⟩ : ∃ z, z = nn8 + ((([] : List ByteArray).drop 0) : List ByteArray).length := ⟨_, rfl⟩
          rw [← hnn9] at ho9
          obtain ⟨p9, c9, rfl, -⟩ := own_shape ho9
          have B9 : Hid (Below w.heap.size w w9) := hide (B8.out.grown hg9 B8.out.size (fun j hj => (O8.out.lt j hj).1))
          have O9 := hide ho9
          have E9 := hide hnn9
          clear ho9 hg9 hf9 hnn9
          try go_simp
          refine hK.out _ _ trivial (fun hHeld2 => ?_)
          clear hK K hHeld
          have hHeld := hHeld2
          clear hHeld2
          refine wpU_ready (rs := [12]) (by kernel_rfl) (by simp) ?_
          refine AllU.last rfl (fun K hK => ?_)
          go_simp
          try go_wp2_with fail
          refine hK.out _ _ ?_
          clear hK K
          refine wpAny_done (by kernel_rfl) ?_ _
          go_wp2_with fail
          go_ret
          have HL : Hid (((((([] : List ByteArray).take 0) ++ [x]) ++ (([] : List ByteArray).drop 0)) : List ByteArray).length = nn9) := hide (by have h1 := LT.out; have h2 := LD.out; have h30 := E7.out; have h31 := E8.out; have h32 := E9.out; simp only [List.length_append, List.length_cons, List.length_nil] at *; omega)
          exact ⟨⟨_, _, rfl, ⟨strCap_own (B := w.heap.size) (by rw [HL.out]; exact O9.out), fun e => by have := HL.out; rw [e] at this; simp at e⟩, HPUT.out⟩, B9.out⟩
      · go_simp
        try go_wp2_with fail
        obtain ⟨wa10, hwa10⟩ : ∃ z, z = wd.alloc (.cells #[.string x] 9) := ⟨_, rfl⟩
        have B10 : Hid (Below w.heap.size w wa10) := hide (by rw [hwa10]; exact bel_alloc BE.out _)
        have X10 : Hid (XB wa10 x wd.heap.size) := hide (by rw [hwa10]; exact XB.new _ _)
        rw [← hwa10]
        clear hwa10
        refine hK.out _ _ trivial (fun hHeld2 => ?_)
        clear hK K hHeld
        have hHeld := hHeld2
        clear hHeld2
        refine wpU_ready (rs := [0]) (by kernel_rfl) (by simp) ?_
        refine AllU.cons (by decide) rfl (fun K hK => ?_) AllU.nil
        go_simp
        try go_wp2_with fail
        obtain ⟨wa11, hwa11⟩ : ∃ z, z = wa10.alloc (.cells #[] 9) := ⟨_, rfl⟩
        have B11 : Hid (Below w.heap.size w wa11) := hide (by rw [hwa11]; exact bel_alloc B10.out _)
        have O11 : Hid (wa11.ownsRow w.heap.size 9 1 (.slice (some ⟨wa10.heap.size, 0, none⟩) 0 0) 0 (strV [])) := hide (by rw [hwa11]; exact own_empty _ _ B10.out.size)
        have X11 : Hid (XB wa11 x wd.heap.size) := hide (by rw [hwa11]; exact X10.out.alloc _)
        have P11 : Hid ((Value.slice (some ⟨wa10.heap.size, 0, none⟩) 0 0).ownBlock ≠ some wd.heap.size) := hide (fun e => by
          have h := X10.out.lt
          have e2 : wa10.heap.size = wd.heap.size := by simpa [Value.ownBlock] using e
          omega)
        rw [← hwa11]
        clear hwa11
        refine hK.out _ _ trivial (fun hHeld2 => ?_)
        clear hK K hHeld
        have hHeld := hHeld2
        clear hHeld2
        refine wpU_ready (rs := [4]) (by kernel_rfl) (by simp) ?_
        refine AllU.cons (by decide) rfl (fun K hK => ?_) AllU.nil
        refine dstep_wanted rfl (dwp_strs _ _ rfl w.heap.size _ 0 [] rfl O11.out _ (([] : List ByteArray).take 0) rfl (HT.out.below B11.out) (by have := LT.out; have := LT.out; have := LD.out;  have := L1.out; omega) B11.out.size ?_)
        intro v12 w12 ho12 hg12 hf12
        obtain ⟨nn12, hnn12⟩ : ∃ z, z = 0 + ((([] : List ByteArray).take 0) : List ByteArray).length := ⟨_, rfl⟩
        rw [← hnn12] at ho12
        obtain ⟨p12, c12, rfl, -⟩ := own_shape ho12
        have B12 : Hid (Below w.heap.size w w12) := hide (B11.out.grown hg12 B11.out.size (fun j hj => (O11.out.lt j hj).1))
        have O12 := hide ho12
        have O12 : Hid (w12.ownsRow w.heap.size 9 1 (.slice p12 nn12 c12) nn12 (strV (([] : List ByteArray).take 0))) := O12
        have E12 := hide hnn12
        have X12 : Hid (XB w12 x wd.heap.size) := hide (X11.out.grown hg12 P11.out)
        have P12 : Hid ((Value.ownBlock (.slice p12 nn12 c12)) ≠ some wd.heap.size) := hide (fun e => by
          rcases hf12 with h | h
          · exact P11.out (h.symm.trans e)
          · rw [h] at e; injection e with e; have := X11.out.lt; omega)
        clear ho12 hg12 hf12 hnn12
        try go_simp
        refine hK.out _ _ trivial (fun hHeld2 => ?_)
        clear hK K hHeld
        have hHeld := hHeld2
        clear hHeld2
        refine wpU_ready (rs := [7]) (by kernel_rfl) (by simp) ?_
        refine AllU.cons (by decide) rfl (fun K hK => ?_) AllU.nil
        refine dstep_wanted rfl (dwp_strs _ _ rfl w.heap.size _ nn12 (([] : List ByteArray).take 0) rfl O12.out _ [x] rfl X12.out.arg (by have := L1.out; have := LT.out; have := LD.out; have h30 := E12.out; have := L1.out; omega) B12.out.size ?_)
        intro v13 w13 ho13 hg13 hf13
        obtain ⟨nn13, hnn13⟩ : ∃ z, z = nn12 + ([x] : List ByteArray).length := ⟨_, rfl⟩
        rw [← hnn13] at ho13
        obtain ⟨p13, c13, rfl, -⟩ := own_shape ho13
        have B13 : Hid (Below w.heap.size w w13) := hide (B12.out.grown hg13 B12.out.size (fun j hj => (O12.out.lt j hj).1))
        have O13 := hide ho13
        have E13 := hide hnn13
        clear ho13 hg13 hf13 hnn13
        try go_simp
        refine hK.out _ _ trivial (fun hHeld2 => ?_)
        clear hK K hHeld
        have hHeld := hHeld2
        clear hHeld2
        refine wpU_ready (rs := [11]) (by kernel_rfl) (by simp) ?_
        refine AllU.cons (by decide) rfl (fun K hK => ?_) AllU.nil
        refine dstep_wanted rfl (dwp_strs _ _ rfl w.heap.size _ nn13 ((([] : List ByteArray).take 0) ++ [x]) rfl O13.out _ (([] : List ByteArray).drop 0) rfl (HDR.out.below B13.out) (by have := LD.out; have := LT.out; have := LD.out; have h30 := E12.out; have h31 := E13.out; have := L1.out; omega) B13.out.size ?_)
        intro v14 w14 ho14 hg14 hf14
        obtain ⟨nn14, hnn14⟩ : ∃ z, z = nn13 + ((([] : List ByteArray).drop 0) : List ByteArray).length := ⟨_, rfl⟩
        rw [← hnn14] at ho14
        obtain ⟨p14, c14, rfl, -⟩ := own_shape ho14
        have B14 : Hid (Below w.heap.size w w14) := hide (B13.out.grown hg14 B13.out.size (fun j hj => (O13.out.lt j hj).1))
        have O14 := hide ho14
        have E14 := hide hnn14
        clear ho14 hg14 hf14 hnn14
        try go_simp
        refine hK.out _ _ trivial (fun hHeld2 => ?_)
        clear hK K hHeld
        have hHeld := hHeld2
        clear hHeld2
        refine wpU_ready (rs := [12]) (by kernel_rfl) (by simp) ?_
        refine AllU.last rfl (fun K hK => ?_)
        go_simp
        try go_wp2_with fail
        refine hK.out _ _ ?_
        clear hK K
        refine wpAny_done (by kernel_rfl) ?_ _
        go_wp2_with fail
        go_ret
        have HL : Hid (((((([] : List ByteArray).take 0) ++ [x]) ++ (([] : List ByteArray).drop 0)) : List ByteArray).length = nn14) := hide (by have h1 := LT.out; have h2 := LD.out; have h30 := E12.out; have h31 := E13.out; have h32 := E14.out; simp only [List.length_append, List.length_cons, List.length_nil] at *; omega)
        exact ⟨⟨_, _, rfl, ⟨strCap_own (B := w.heap.size) (by rw [HL.out]; exact O14.out), fun e => by have := HL.out; rw [e] at this; simp at e⟩, HPUT.out⟩, B14.out⟩
  · obtain ⟨p, c, hve, -, hc⟩ := hv.1.1
    have hnc : ss.length ≤ c := by
      obtain ⟨p', n', c', e, h⟩ := hv.1.2
      rw [hve] at e
      injection e with e1 e2 e3
      omega
    obtain ⟨y0, hy0⟩ : ∃ y0, ss[0]? = some y0 := ⟨_, List.getElem?_eq_getElem (List.length_pos_iff.2 hne)⟩
    obtain ⟨b, off, rfl, -⟩ := hc 0 y0 hy0
    have HC : Hid (∀ i y, ss[i]? = some y → w.cell? ⟨b, off + i, none⟩ = some (.string y)) := hide (fun i y hi => by
      obtain ⟨b', off', e, h⟩ := hc i y hi
      injection e with e
      injection e with e1 e2
      subst e1 e2
      exact h)
    subst hve
    obtain ⟨N, hN⟩ : ∃ N, N = ss.length := ⟨_, rfl⟩
    rw [← hN] at hv hl hnc ⊢
    have HV := hide hv
    have HN := hide hN
    clear hv hN hc hy0 hne y0
    go_enter Try.func23, Try.ntmps23
    go_wp2_with fail
    go_loopg [5] N (fun g v5 wr => ∃ j : Nat, j + g = N ∧ v5 = .int .i64 (j : Int) ∧ wr = w ∧ Hid (∀ i y, i < j → ss[i]? = some y → lt (bl y) (bl x) = true))
    case atStart => exact ⟨0, by omega, rfl, rfl, hide (fun i y h => by omega)⟩
    case round =>
      obtain ⟨j, hj, rfl, hwr, HI⟩ := hrel
      have hwr2 := hwr.symm
      clear hwr
      subst hwr2
      have hjN : j ≤ N := by omega
      have hjc : j ≤ c := by omega
      have LT : Hid ((ss.take j).length ≤ 1000000) := hide (by rw [List.length_take]; have := HN.out; omega)
      have LD : Hid ((ss.drop j).length ≤ 1000000) := hide (by rw [List.length_drop]; have := HN.out; omega)
      have L1 : Hid (([x] : List ByteArray).length ≤ 1) := hide (by simp)
      have HT : Hid (StrArg w (.slice (some ⟨b, off, none⟩) j c) (ss.take j)) := hide (strArg_take HV.out.1.1 j hjN)
      by_cases hlt : j < N
      · have hja : j < ss.length := by have := HN.out; omega
        have hga : ss[j]? = some ss[j] := List.getElem?_eq_getElem hja
        generalize ss[j] = y at hga
        have yc := HC.out j y hga
        have HGA := hide hga
        clear hga hja
        cases hxy : lt (bl y) (bl x) with
        | true =>
          have h1 : Op.bytesLess y.toList x.toList = true := by rw [dless_is, hxy]
          have HXY := hide hxy
          clear hxy
          go_wp2_with fail
          go_roundg (N - (j + 1))
          case measure => omega
          case rel => exact ⟨j + 1, by omega, rfl, rfl, hide (fun i z hi hz => by
            rcases Nat.lt_or_ge i j with h | h
            · exact HI.out i z h hz
            · have : i = j := by omega
              subst this
              rw [HGA.out] at hz
              injection hz with hz
              subst hz
              exact HXY.out)⟩
        | false =>
          have h1 : Op.bytesLess y.toList x.toList = false := by rw [dless_is, hxy]
          by_cases heq : bl y = bl x
          · have h2 := beq_same heq
            have HP := hide (put_there HI.out HGA.out heq)
            clear heq hxy
            go_wp2_with fail
            go_ret
            exact ⟨⟨_, ss, rfl, HV.out, HP.out⟩, Below.refl _ _⟩
          · have h2 := beq_ne heq
            have HPUT : Hid (((ss.take j ++ [x]) ++ ss.drop j).map bl = putR (ss.map bl) (bl x)) := hide (put_none (by have := HN.out; omega) HI.out (fun z hz => by
              rw [HGA.out] at hz
              injection hz with hz
              subst hz
              exact ⟨hxy, heq⟩))
            have hcj : ¬ c = j := by omega
            have HDR : Hid (StrArg w (.slice (some ⟨b, off + j, none⟩) (N - j) (c - j)) (ss.drop j)) := hide (strArg_drop HV.out.1.1 j)
            clear heq hxy HI
            go_wp2_with fail
            refine wp_region_until (m := 12) (S := (fun _ => True)) (by kernel_rfl) trivial (fun hHeld => ?_)
            obtain ⟨wd, hwd⟩ : ∃ z, z = w.drew := ⟨_, rfl⟩
            have BE : Hid (Below w.heap.size w wd) := hide (by rw [hwd]; exact BD.out)
            rw [← hwd]
            clear hwd
            refine wpU_at (i := 1) (v := ?vqb1) (a1 := ?xqb1) rfl (by kernel_rfl) (by kernel_rfl) (by kernel_rfl) (by kernel_rfl) (fun _ _ _ h => h) (Or.inl ⟨by rfl, ?yqb1⟩) trivial ?hqb1 ?zqb1
            case yqb1 => (intro w hSw; (try dsimp only at hSw); go_simp; try (with_reducible rfl))
            case hqb1 => (go_simp; exact rfl)
            case zqb1 =>
            refine wpU_at (i := 2) (v := ?vqb2) (a1 := ?xqb2) rfl (by kernel_rfl) (by kernel_rfl) (by kernel_rfl) (by kernel_rfl) (fun _ _ _ h => h) (Or.inl ⟨by rfl, ?yqb2⟩) trivial ?hqb2 ?zqb2
            case yqb2 => (intro w hSw; (try dsimp only at hSw); go_simp; try (with_reducible rfl))
            case hqb2 => (go_simp; exact rfl)
            case zqb2 =>
            refine wpU_at (i := 3) (v := ?vqb3) (a1 := ?xqb3) rfl (by kernel_rfl) (by kernel_rfl) (by kernel_rfl) (by kernel_rfl) (fun _ _ _ h => h) (Or.inl ⟨by rfl, ?yqb3⟩) trivial ?hqb3 ?zqb3
            case yqb3 => (intro w hSw; (try dsimp only at hSw); go_simp; try (with_reducible rfl))
            case hqb3 => (go_simp; exact rfl)
            case zqb3 =>
            refine wpU_at (i := 5) (v := ?vqb5) (a1 := ?xqb5) rfl (by kernel_rfl) (by kernel_rfl) (by kernel_rfl) (by kernel_rfl) (fun _ _ _ h => h) (Or.inl ⟨by rfl, ?yqb5⟩) trivial ?hqb5 ?zqb5
            case yqb5 => (intro w hSw; (try dsimp only at hSw); go_simp; try (with_reducible rfl))
            case hqb5 => (go_simp; exact rfl)
            case zqb5 =>
            refine wpU_at (i := 8) (v := ?vqb8) (a1 := ?xqb8) rfl (by kernel_rfl) (by kernel_rfl) (by kernel_rfl) (by kernel_rfl) (fun _ _ _ h => h) (Or.inl ⟨by rfl, ?yqb8⟩) trivial ?hqb8 ?zqb8
            case yqb8 => (intro w hSw; (try dsimp only at hSw); go_simp; try (with_reducible rfl))
            case hqb8 => (go_simp; exact rfl)
            case zqb8 =>
            refine wpU_at (i := 9) (v := ?vqb9) (a1 := ?xqb9) rfl (by kernel_rfl) (by kernel_rfl) (by kernel_rfl) (by kernel_rfl) (fun _ _ _ h => h) (Or.inl ⟨by rfl, ?yqb9⟩) trivial ?hqb9 ?zqb9
            case yqb9 => (intro w hSw; (try dsimp only at hSw); go_simp; try (with_reducible rfl))
            case hqb9 => (go_simp; exact rfl)
            case zqb9 =>
            refine wpU_at (i := 10) (v := ?vqb10) (a1 := ?xqb10) rfl (by kernel_rfl) (by kernel_rfl) (by kernel_rfl) (by kernel_rfl) (fun _ _ _ h => h) (Or.inl ⟨by rfl, ?yqb10⟩) trivial ?hqb10 ?zqb10
            case yqb10 => (intro w hSw; (try dsimp only at hSw); go_simp; try (with_reducible rfl))
            case hqb10 => (go_simp; exact rfl)
            case zqb10 =>
            refine wpU_ready (rs := [0, 6]) (by kernel_rfl) (by simp) ?_
            refine AllU.cons (by decide) rfl (fun K hK => ?_) (AllU.cons (by decide) rfl (fun K hK => ?_) AllU.nil)
            · go_simp
              try go_wp2_with fail
              obtain ⟨wa1, hwa1⟩ : ∃ z, z = wd.alloc (.cells #[] 9) := ⟨_, rfl⟩
              have B1 : Hid (Below w.heap.size w wa1) := hide (by rw [hwa1]; exact bel_alloc BE.out _)
              have O1 : Hid (wa1.ownsRow w.heap.size 9 1 (.slice (some ⟨wd.heap.size, 0, none⟩) 0 0) 0 (strV [])) := hide (by rw [hwa1]; exact own_empty _ _ BE.out.size)
              rw [← hwa1]
              clear hwa1
              refine hK.out _ _ trivial (fun hHeld2 => ?_)
              clear hK K hHeld
              have hHeld := hHeld2
              clear hHeld2
              refine wpU_ready (rs := [4, 6]) (by kernel_rfl) (by simp) ?_
              refine AllU.cons (by decide) rfl (fun K hK => ?_) (AllU.cons (by decide) rfl (fun K hK => ?_) AllU.nil)
              · refine dstep_wanted rfl (dwp_strs _ _ rfl w.heap.size _ 0 [] rfl O1.out _ (ss.take j) rfl (HT.out.below B1.out) (by have := LT.out; have := LT.out; have := LD.out;  have := L1.out; omega) B1.out.size ?_)
                intro v2 w2 ho2 hg2 hf2
                obtain ⟨nn2, hnn2⟩ : ∃ z, z = 0 + ((ss.take j) : List ByteArray).length := ⟨_, rfl⟩
                rw [← hnn2] at ho2
                obtain ⟨p2, c2, rfl, -⟩ := own_shape ho2
                have B2 : Hid (Below w.heap.size w w2) := hide (B1.out.grown hg2 B1.out.size (fun j hj => (O1.out.lt j hj).1))
                have O2 := hide ho2
                have O2 : Hid (w2.ownsRow w.heap.size 9 1 (.slice p2 nn2 c2) nn2 (strV (ss.take j))) := O2
                have E2 := hide hnn2
                clear ho2 hg2 hf2 hnn2
                try go_simp
                refine hK.out _ _ trivial (fun hHeld2 => ?_)
                clear hK K hHeld
                have hHeld := hHeld2
                clear hHeld2
                refine wpU_ready (rs := [6]) (by kernel_rfl) (by simp) ?_
                refine AllU.cons (by decide) rfl (fun K hK => ?_) AllU.nil
                go_simp
                try go_wp2_with fail
                obtain ⟨wa3, hwa3⟩ : ∃ z, z = w2.alloc (.cells #[.string x] 9) := ⟨_, rfl⟩
                have B3 : Hid (Below w.heap.size w wa3) := hide (by rw [hwa3]; exact bel_alloc B2.out _)
                have X3 : Hid (XB wa3 x w2.heap.size) := hide (by rw [hwa3]; exact XB.new _ _)
                have O3 : Hid (wa3.ownsRow w.heap.size 9 1 (.slice p2 nn2 c2) nn2 (strV (ss.take j))) := hide (by rw [hwa3]; exact O2.out.alloc _)
                have P3 : Hid ((Value.ownBlock (.slice p2 nn2 c2)) ≠ some w2.heap.size) := hide (fun e => by have h := (O2.out.lt _ e).2; omega)
                rw [← hwa3]
                clear hwa3
                refine hK.out _ _ trivial (fun hHeld2 => ?_)
                clear hK K hHeld
                have hHeld := hHeld2
                clear hHeld2
                refine wpU_ready (rs := [7]) (by kernel_rfl) (by simp) ?_
                refine AllU.cons (by decide) rfl (fun K hK => ?_) AllU.nil
                refine dstep_wanted rfl (dwp_strs _ _ rfl w.heap.size _ nn2 (ss.take j) rfl O3.out _ [x] rfl X3.out.arg (by have := L1.out; have := LT.out; have := LD.out; have h30 := E2.out; have := L1.out; omega) B3.out.size ?_)
                intro v4 w4 ho4 hg4 hf4
                obtain ⟨nn4, hnn4⟩ : ∃ z, z = nn2 + ([x] : List ByteArray).length := ⟨_, rfl⟩
                rw [← hnn4] at ho4
                obtain ⟨p4, c4, rfl, -⟩ := own_shape ho4
                have B4 : Hid (Below w.heap.size w w4) := hide (B3.out.grown hg4 B3.out.size (fun j hj => (O3.out.lt j hj).1))
                have O4 := hide ho4
                have E4 := hide hnn4
                clear ho4 hg4 hf4 hnn4
                try go_simp
                refine hK.out _ _ trivial (fun hHeld2 => ?_)
                clear hK K hHeld
                have hHeld := hHeld2
                clear hHeld2
                refine wpU_ready (rs := [11]) (by kernel_rfl) (by simp) ?_
                refine AllU.cons (by decide) rfl (fun K hK => ?_) AllU.nil
                refine dstep_wanted rfl (dwp_strs _ _ rfl w.heap.size _ nn4 ((ss.take j) ++ [x]) rfl O4.out _ (ss.drop j) rfl (HDR.out.below B4.out) (by have := LD.out; have := LT.out; have := LD.out; have h30 := E2.out; have h31 := E4.out; have := L1.out; omega) B4.out.size ?_)
                intro v5 w5 ho5 hg5 hf5
                obtain ⟨nn5, hnn5⟩ : ∃ z, z = nn4 + ((ss.drop j) : List ByteArray).length := ⟨_, rfl⟩
                rw [← hnn5] at ho5
                obtain ⟨p5, c5, rfl, -⟩ := own_shape ho5
                have B5 : Hid (Below w.heap.size w w5) := hide (B4.out.grown hg5 B4.out.size (fun j hj => (O4.out.lt j hj).1))
                have O5 := hide ho5
                have E5 := hide hnn5
                clear ho5 hg5 hf5 hnn5
                try go_simp
                refine hK.out _ _ trivial (fun hHeld2 => ?_)
                clear hK K hHeld
                have hHeld := hHeld2
                clear hHeld2
                refine wpU_ready (rs := [12]) (by kernel_rfl) (by simp) ?_
                refine AllU.last rfl (fun K hK => ?_)
                go_simp
                try go_wp2_with fail
                refine hK.out _ _ ?_
                clear hK K
                refine wpAny_done (by kernel_rfl) ?_ _
                go_wp2_with fail
                go_ret
                have HL : Hid (((((ss.take j) ++ [x]) ++ (ss.drop j)) : List ByteArray).length = nn5) := hide (by have h1 := LT.out; have h2 := LD.out; have h30 := E2.out; have h31 := E4.out; have h32 := E5.out; simp only [List.length_append, List.length_cons, List.length_nil] at *; omega)
                exact ⟨⟨_, _, rfl, ⟨strCap_own (B := w.heap.size) (by rw [HL.out]; exact O5.out), fun e => by have := HL.out; rw [e] at this; simp at e⟩, HPUT.out⟩, B5.out⟩
              · go_simp
                try go_wp2_with fail
                obtain ⟨wa6, hwa6⟩ : ∃ z, z = wa1.alloc (.cells #[.string x] 9) := ⟨_, rfl⟩
                have B6 : Hid (Below w.heap.size w wa6) := hide (by rw [hwa6]; exact bel_alloc B1.out _)
                have X6 : Hid (XB wa6 x wa1.heap.size) := hide (by rw [hwa6]; exact XB.new _ _)
                have O6 : Hid (wa6.ownsRow w.heap.size 9 1 (.slice (some ⟨wd.heap.size, 0, none⟩) 0 0) 0 (strV [])) := hide (by rw [hwa6]; exact O1.out.alloc _)
                have P6 : Hid ((Value.ownBlock (.slice (some ⟨wd.heap.size, 0, none⟩) 0 0)) ≠ some wa1.heap.size) := hide (fun e => by have h := (O1.out.lt _ e).2; omega)
                rw [← hwa6]
                clear hwa6
                refine hK.out _ _ trivial (fun hHeld2 => ?_)
                clear hK K hHeld
                have hHeld := hHeld2
                clear hHeld2
                refine wpU_ready (rs := [4]) (by kernel_rfl) (by simp) ?_
                refine AllU.cons (by decide) rfl (fun K hK => ?_) AllU.nil
                refine dstep_wanted rfl (dwp_strs _ _ rfl w.heap.size _ 0 [] rfl O6.out _ (ss.take j) rfl (HT.out.below B6.out) (by have := LT.out; have := LT.out; have := LD.out;  have := L1.out; omega) B6.out.size ?_)
                intro v7 w7 ho7 hg7 hf7
                obtain ⟨nn7, hnn7⟩ : ∃ z, z = 0 + ((ss.take j) : List ByteArray).length := ⟨_, rfl⟩
                rw [← hnn7] at ho7
                obtain ⟨p7, c7, rfl, -⟩ := own_shape ho7
                have B7 : Hid (Below w.heap.size w w7) := hide (B6.out.grown hg7 B6.out.size (fun j hj => (O6.out.lt j hj).1))
                have O7 := hide ho7
                have O7 : Hid (w7.ownsRow w.heap.size 9 1 (.slice p7 nn7 c7) nn7 (strV (ss.take j))) := O7
                have E7 := hide hnn7
                have X7 : Hid (XB w7 x wa1.heap.size) := hide (X6.out.grown hg7 P6.out)
                have P7 : Hid ((Value.ownBlock (.slice p7 nn7 c7)) ≠ some wa1.heap.size) := hide (fun e => by
                  rcases hf7 with h | h
                  · exact P6.out (h.symm.trans e)
                  · rw [h] at e; injection e with e; have := X6.out.lt; omega)
                clear ho7 hg7 hf7 hnn7
                try go_simp
                refine hK.out _ _ trivial (fun hHeld2 => ?_)
                clear hK K hHeld
                have hHeld := hHeld2
                clear hHeld2
                refine wpU_ready (rs := [7]) (by kernel_rfl) (by simp) ?_
                refine AllU.cons (by decide) rfl (fun K hK => ?_) AllU.nil
                refine dstep_wanted rfl (dwp_strs _ _ rfl w.heap.size _ nn7 (ss.take j) rfl O7.out _ [x] rfl X7.out.arg (by have := L1.out; have := LT.out; have := LD.out; have h30 := E7.out; have := L1.out; omega) B7.out.size ?_)
                intro v8 w8 ho8 hg8 hf8
                obtain ⟨nn8, hnn8⟩ : ∃ z, z = nn7 + ([x] : List ByteArray).length := ⟨_, rfl⟩
                rw [← hnn8] at ho8
                obtain ⟨p8, c8, rfl, -⟩ := own_shape ho8
                have B8 : Hid (Below w.heap.size w w8) := hide (B7.out.grown hg8 B7.out.size (fun j hj => (O7.out.lt j hj).1))
                have O8 := hide ho8
                have E8 := hide hnn8
                clear ho8 hg8 hf8 hnn8
                try go_simp
                refine hK.out _ _ trivial (fun hHeld2 => ?_)
                clear hK K hHeld
                have hHeld := hHeld2
                clear hHeld2
                refine wpU_ready (rs := [11]) (by kernel_rfl) (by simp) ?_
                refine AllU.cons (by decide) rfl (fun K hK => ?_) AllU.nil
                refine dstep_wanted rfl (dwp_strs _ _ rfl w.heap.size _ nn8 ((ss.take j) ++ [x]) rfl O8.out _ (ss.drop j) rfl (HDR.out.below B8.out) (by have := LD.out; have := LT.out; have := LD.out; have h30 := E7.out; have h31 := E8.out; have := L1.out; omega) B8.out.size ?_)
                intro v9 w9 ho9 hg9 hf9
                obtain ⟨nn9, hnn9⟩ : ∃ z, z = nn8 + ((ss.drop j) : List ByteArray).length := ⟨_, rfl⟩
                rw [← hnn9] at ho9
                obtain ⟨p9, c9, rfl, -⟩ := own_shape ho9
                have B9 : Hid (Below w.heap.size w w9) := hide (B8.out.grown hg9 B8.out.size (fun j hj => (O8.out.lt j hj).1))
                have O9 := hide ho9
                have E9 := hide hnn9
                clear ho9 hg9 hf9 hnn9
                try go_simp
                refine hK.out _ _ trivial (fun hHeld2 => ?_)
                clear hK K hHeld
                have hHeld := hHeld2
                clear hHeld2
                refine wpU_ready (rs := [12]) (by kernel_rfl) (by simp) ?_
                refine AllU.last rfl (fun K hK => ?_)
                go_simp
                try go_wp2_with fail
                refine hK.out _ _ ?_
                clear hK K
                refine wpAny_done (by kernel_rfl) ?_ _
                go_wp2_with fail
                go_ret
                have HL : Hid (((((ss.take j) ++ [x]) ++ (ss.drop j)) : List ByteArray).length = nn9) := hide (by have h1 := LT.out; have h2 := LD.out; have h30 := E7.out; have h31 := E8.out; have h32 := E9.out; simp only [List.length_append, List.length_cons, List.length_nil] at *; omega)
                exact ⟨⟨_, _, rfl, ⟨strCap_own (B := w.heap.size) (by rw [HL.out]; exact O9.out), fun e => by have := HL.out; rw [e] at this; simp at e⟩, HPUT.out⟩, B9.out⟩
            · go_simp
              try go_wp2_with fail
              obtain ⟨wa10, hwa10⟩ : ∃ z, z = wd.alloc (.cells #[.string x] 9) := ⟨_, rfl⟩
              have B10 : Hid (Below w.heap.size w wa10) := hide (by rw [hwa10]; exact bel_alloc BE.out _)
              have X10 : Hid (XB wa10 x wd.heap.size) := hide (by rw [hwa10]; exact XB.new _ _)
              rw [← hwa10]
              clear hwa10
              refine hK.out _ _ trivial (fun hHeld2 => ?_)
              clear hK K hHeld
              have hHeld := hHeld2
              clear hHeld2
              refine wpU_ready (rs := [0]) (by kernel_rfl) (by simp) ?_
              refine AllU.cons (by decide) rfl (fun K hK => ?_) AllU.nil
              go_simp
              try go_wp2_with fail
              obtain ⟨wa11, hwa11⟩ : ∃ z, z = wa10.alloc (.cells #[] 9) := ⟨_, rfl⟩
              have B11 : Hid (Below w.heap.size w wa11) := hide (by rw [hwa11]; exact bel_alloc B10.out _)
              have O11 : Hid (wa11.ownsRow w.heap.size 9 1 (.slice (some ⟨wa10.heap.size, 0, none⟩) 0 0) 0 (strV [])) := hide (by rw [hwa11]; exact own_empty _ _ B10.out.size)
              have X11 : Hid (XB wa11 x wd.heap.size) := hide (by rw [hwa11]; exact X10.out.alloc _)
              have P11 : Hid ((Value.slice (some ⟨wa10.heap.size, 0, none⟩) 0 0).ownBlock ≠ some wd.heap.size) := hide (fun e => by
                have h := X10.out.lt
                have e2 : wa10.heap.size = wd.heap.size := by simpa [Value.ownBlock] using e
                omega)
              rw [← hwa11]
              clear hwa11
              refine hK.out _ _ trivial (fun hHeld2 => ?_)
              clear hK K hHeld
              have hHeld := hHeld2
              clear hHeld2
              refine wpU_ready (rs := [4]) (by kernel_rfl) (by simp) ?_
              refine AllU.cons (by decide) rfl (fun K hK => ?_) AllU.nil
              refine dstep_wanted rfl (dwp_strs _ _ rfl w.heap.size _ 0 [] rfl O11.out _ (ss.take j) rfl (HT.out.below B11.out) (by have := LT.out; have := LT.out; have := LD.out;  have := L1.out; omega) B11.out.size ?_)
              intro v12 w12 ho12 hg12 hf12
              obtain ⟨nn12, hnn12⟩ : ∃ z, z = 0 + ((ss.take j) : List ByteArray).length := ⟨_, rfl⟩
              rw [← hnn12] at ho12
              obtain ⟨p12, c12, rfl, -⟩ := own_shape ho12
              have B12 : Hid (Below w.heap.size w w12) := hide (B11.out.grown hg12 B11.out.size (fun j hj => (O11.out.lt j hj).1))
              have O12 := hide ho12
              have O12 : Hid (w12.ownsRow w.heap.size 9 1 (.slice p12 nn12 c12) nn12 (strV (ss.take j))) := O12
              have E12 := hide hnn12
              have X12 : Hid (XB w12 x wd.heap.size) := hide (X11.out.grown hg12 P11.out)
              have P12 : Hid ((Value.ownBlock (.slice p12 nn12 c12)) ≠ some wd.heap.size) := hide (fun e => by
                rcases hf12 with h | h
                · exact P11.out (h.symm.trans e)
                · rw [h] at e; injection e with e; have := X11.out.lt; omega)
              clear ho12 hg12 hf12 hnn12
              try go_simp
              refine hK.out _ _ trivial (fun hHeld2 => ?_)
              clear hK K hHeld
              have hHeld := hHeld2
              clear hHeld2
              refine wpU_ready (rs := [7]) (by kernel_rfl) (by simp) ?_
              refine AllU.cons (by decide) rfl (fun K hK => ?_) AllU.nil
              refine dstep_wanted rfl (dwp_strs _ _ rfl w.heap.size _ nn12 (ss.take j) rfl O12.out _ [x] rfl X12.out.arg (by have := L1.out; have := LT.out; have := LD.out; have h30 := E12.out; have := L1.out; omega) B12.out.size ?_)
              intro v13 w13 ho13 hg13 hf13
              obtain ⟨nn13, hnn13⟩ : ∃ z, z = nn12 + ([x] : List ByteArray).length := ⟨_, rfl⟩
              rw [← hnn13] at ho13
              obtain ⟨p13, c13, rfl, -⟩ := own_shape ho13
              have B13 : Hid (Below w.heap.size w w13) := hide (B12.out.grown hg13 B12.out.size (fun j hj => (O12.out.lt j hj).1))
              have O13 := hide ho13
              have E13 := hide hnn13
              clear ho13 hg13 hf13 hnn13
              try go_simp
              refine hK.out _ _ trivial (fun hHeld2 => ?_)
              clear hK K hHeld
              have hHeld := hHeld2
              clear hHeld2
              refine wpU_ready (rs := [11]) (by kernel_rfl) (by simp) ?_
              refine AllU.cons (by decide) rfl (fun K hK => ?_) AllU.nil
              refine dstep_wanted rfl (dwp_strs _ _ rfl w.heap.size _ nn13 ((ss.take j) ++ [x]) rfl O13.out _ (ss.drop j) rfl (HDR.out.below B13.out) (by have := LD.out; have := LT.out; have := LD.out; have h30 := E12.out; have h31 := E13.out; have := L1.out; omega) B13.out.size ?_)
              intro v14 w14 ho14 hg14 hf14
              obtain ⟨nn14, hnn14⟩ : ∃ z, z = nn13 + ((ss.drop j) : List ByteArray).length := ⟨_, rfl⟩
              rw [← hnn14] at ho14
              obtain ⟨p14, c14, rfl, -⟩ := own_shape ho14
              have B14 : Hid (Below w.heap.size w w14) := hide (B13.out.grown hg14 B13.out.size (fun j hj => (O13.out.lt j hj).1))
              have O14 := hide ho14
              have E14 := hide hnn14
              clear ho14 hg14 hf14 hnn14
              try go_simp
              refine hK.out _ _ trivial (fun hHeld2 => ?_)
              clear hK K hHeld
              have hHeld := hHeld2
              clear hHeld2
              refine wpU_ready (rs := [12]) (by kernel_rfl) (by simp) ?_
              refine AllU.last rfl (fun K hK => ?_)
              go_simp
              try go_wp2_with fail
              refine hK.out _ _ ?_
              clear hK K
              refine wpAny_done (by kernel_rfl) ?_ _
              go_wp2_with fail
              go_ret
              have HL : Hid (((((ss.take j) ++ [x]) ++ (ss.drop j)) : List ByteArray).length = nn14) := hide (by have h1 := LT.out; have h2 := LD.out; have h30 := E12.out; have h31 := E13.out; have h32 := E14.out; simp only [List.length_append, List.length_cons, List.length_nil] at *; omega)
              exact ⟨⟨_, _, rfl, ⟨strCap_own (B := w.heap.size) (by rw [HL.out]; exact O14.out), fun e => by have := HL.out; rw [e] at this; simp at e⟩, HPUT.out⟩, B14.out⟩
      · have hd : decide ((j : Int) < (N : Int)) = false := decide_eq_false (by omega)
        have hjj : N = j := by omega
        subst hjj
        have HPUT : Hid (((ss.take N ++ [x]) ++ ss.drop N).map bl = putR (ss.map bl) (bl x)) := hide (put_none (by have := HN.out; omega) HI.out (fun z hz => by
          have := (List.getElem?_eq_some_iff.1 hz).1
          have := HN.out
          omega))
        have e0 : ss.drop N = [] := List.drop_eq_nil_of_le (by have := HN.out; omega)
        by_cases hcj : N = c
        · subst hcj
          have HDR : Hid (StrArg w (.slice (some ⟨b, off, none⟩) 0 0) (ss.drop N)) := hide (by
            rw [e0]
            exact strArg_none)
          clear HI e0
          go_wp2_with fail
          refine wp_region_until (m := 12) (S := (fun _ => True)) (by kernel_rfl) trivial (fun hHeld => ?_)
          obtain ⟨wd, hwd⟩ : ∃ z, z = w.drew := ⟨_, rfl⟩
          have BE : Hid (Below w.heap.size w wd) := hide (by rw [hwd]; exact BD.out)
          rw [← hwd]
          clear hwd
          refine wpU_at (i := 1) (v := ?vqc1) (a1 := ?xqc1) rfl (by kernel_rfl) (by kernel_rfl) (by kernel_rfl) (by kernel_rfl) (fun _ _ _ h => h) (Or.inl ⟨by rfl, ?yqc1⟩) trivial ?hqc1 ?zqc1
          case yqc1 => (intro w hSw; (try dsimp only at hSw); go_simp; try (with_reducible rfl))
          case hqc1 => (go_simp; exact rfl)
          case zqc1 =>
          refine wpU_at (i := 2) (v := ?vqc2) (a1 := ?xqc2) rfl (by kernel_rfl) (by kernel_rfl) (by kernel_rfl) (by kernel_rfl) (fun _ _ _ h => h) (Or.inl ⟨by rfl, ?yqc2⟩) trivial ?hqc2 ?zqc2
          case yqc2 => (intro w hSw; (try dsimp only at hSw); go_simp; try (with_reducible rfl))
          case hqc2 => (go_simp; exact rfl)
          case zqc2 =>
          refine wpU_at (i := 3) (v := ?vqc3) (a1 := ?xqc3) rfl (by kernel_rfl) (by kernel_rfl) (by kernel_rfl) (by kernel_rfl) (fun _ _ _ h => h) (Or.inl ⟨by rfl, ?yqc3⟩) trivial ?hqc3 ?zqc3
          case yqc3 => (intro w hSw; (try dsimp only at hSw); go_simp; try (with_reducible rfl))
          case hqc3 => (go_simp; exact rfl)
          case zqc3 =>
          refine wpU_at (i := 5) (v := ?vqc5) (a1 := ?xqc5) rfl (by kernel_rfl) (by kernel_rfl) (by kernel_rfl) (by kernel_rfl) (fun _ _ _ h => h) (Or.inl ⟨by rfl, ?yqc5⟩) trivial ?hqc5 ?zqc5
          case yqc5 => (intro w hSw; (try dsimp only at hSw); go_simp; try (with_reducible rfl))
          case hqc5 => (go_simp; exact rfl)
          case zqc5 =>
          refine wpU_at (i := 8) (v := ?vqc8) (a1 := ?xqc8) rfl (by kernel_rfl) (by kernel_rfl) (by kernel_rfl) (by kernel_rfl) (fun _ _ _ h => h) (Or.inl ⟨by rfl, ?yqc8⟩) trivial ?hqc8 ?zqc8
          case yqc8 => (intro w hSw; (try dsimp only at hSw); go_simp; try (with_reducible rfl))
          case hqc8 => (go_simp; exact rfl)
          case zqc8 =>
          refine wpU_at (i := 9) (v := ?vqc9) (a1 := ?xqc9) rfl (by kernel_rfl) (by kernel_rfl) (by kernel_rfl) (by kernel_rfl) (fun _ _ _ h => h) (Or.inl ⟨by rfl, ?yqc9⟩) trivial ?hqc9 ?zqc9
          case yqc9 => (intro w hSw; (try dsimp only at hSw); go_simp; try (with_reducible rfl))
          case hqc9 => (go_simp; exact rfl)
          case zqc9 =>
          refine wpU_at (i := 10) (v := ?vqc10) (a1 := ?xqc10) rfl (by kernel_rfl) (by kernel_rfl) (by kernel_rfl) (by kernel_rfl) (fun _ _ _ h => h) (Or.inl ⟨by rfl, ?yqc10⟩) trivial ?hqc10 ?zqc10
          case yqc10 => (intro w hSw; (try dsimp only at hSw); go_simp; try (with_reducible rfl))
          case hqc10 => (go_simp; exact rfl)
          case zqc10 =>
          refine wpU_ready (rs := [0, 6]) (by kernel_rfl) (by simp) ?_
          refine AllU.cons (by decide) rfl (fun K hK => ?_) (AllU.cons (by decide) rfl (fun K hK => ?_) AllU.nil)
          · go_simp
            try go_wp2_with fail
            obtain ⟨wa1, hwa1⟩ : ∃ z, z = wd.alloc (.cells #[] 9) := ⟨_, rfl⟩
            have B1 : Hid (Below w.heap.size w wa1) := hide (by rw [hwa1]; exact bel_alloc BE.out _)
            have O1 : Hid (wa1.ownsRow w.heap.size 9 1 (.slice (some ⟨wd.heap.size, 0, none⟩) 0 0) 0 (strV [])) := hide (by rw [hwa1]; exact own_empty _ _ BE.out.size)
            rw [← hwa1]
            clear hwa1
            refine hK.out _ _ trivial (fun hHeld2 => ?_)
            clear hK K hHeld
            have hHeld := hHeld2
            clear hHeld2
            refine wpU_ready (rs := [4, 6]) (by kernel_rfl) (by simp) ?_
            refine AllU.cons (by decide) rfl (fun K hK => ?_) (AllU.cons (by decide) rfl (fun K hK => ?_) AllU.nil)
            · refine dstep_wanted rfl (dwp_strs _ _ rfl w.heap.size _ 0 [] rfl O1.out _ (ss.take N) rfl (HT.out.below B1.out) (by have := LT.out; have := LT.out; have := LD.out;  have := L1.out; omega) B1.out.size ?_)
              intro v2 w2 ho2 hg2 hf2
              obtain ⟨nn2, hnn2⟩ : ∃ z, z = 0 + ((ss.take N) : List ByteArray).length := ⟨_, rfl⟩
              rw [← hnn2] at ho2
              obtain ⟨p2, c2, rfl, -⟩ := own_shape ho2
              have B2 : Hid (Below w.heap.size w w2) := hide (B1.out.grown hg2 B1.out.size (fun j hj => (O1.out.lt j hj).1))
              have O2 := hide ho2
              have O2 : Hid (w2.ownsRow w.heap.size 9 1 (.slice p2 nn2 c2) nn2 (strV (ss.take N))) := O2
              have E2 := hide hnn2
              clear ho2 hg2 hf2 hnn2
              try go_simp
              refine hK.out _ _ trivial (fun hHeld2 => ?_)
              clear hK K hHeld
              have hHeld := hHeld2
              clear hHeld2
              refine wpU_ready (rs := [6]) (by kernel_rfl) (by simp) ?_
              refine AllU.cons (by decide) rfl (fun K hK => ?_) AllU.nil
              go_simp
              try go_wp2_with fail
              obtain ⟨wa3, hwa3⟩ : ∃ z, z = w2.alloc (.cells #[.string x] 9) := ⟨_, rfl⟩
              have B3 : Hid (Below w.heap.size w wa3) := hide (by rw [hwa3]; exact bel_alloc B2.out _)
              have X3 : Hid (XB wa3 x w2.heap.size) := hide (by rw [hwa3]; exact XB.new _ _)
              have O3 : Hid (wa3.ownsRow w.heap.size 9 1 (.slice p2 nn2 c2) nn2 (strV (ss.take N))) := hide (by rw [hwa3]; exact O2.out.alloc _)
              have P3 : Hid ((Value.ownBlock (.slice p2 nn2 c2)) ≠ some w2.heap.size) := hide (fun e => by have h := (O2.out.lt _ e).2; omega)
              rw [← hwa3]
              clear hwa3
              refine hK.out _ _ trivial (fun hHeld2 => ?_)
              clear hK K hHeld
              have hHeld := hHeld2
              clear hHeld2
              refine wpU_ready (rs := [7]) (by kernel_rfl) (by simp) ?_
              refine AllU.cons (by decide) rfl (fun K hK => ?_) AllU.nil
              refine dstep_wanted rfl (dwp_strs _ _ rfl w.heap.size _ nn2 (ss.take N) rfl O3.out _ [x] rfl X3.out.arg (by have := L1.out; have := LT.out; have := LD.out; have h30 := E2.out; have := L1.out; omega) B3.out.size ?_)
              intro v4 w4 ho4 hg4 hf4
              obtain ⟨nn4, hnn4⟩ : ∃ z, z = nn2 + ([x] : List ByteArray).length := ⟨_, rfl⟩
              rw [← hnn4] at ho4
              obtain ⟨p4, c4, rfl, -⟩ := own_shape ho4
              have B4 : Hid (Below w.heap.size w w4) := hide (B3.out.grown hg4 B3.out.size (fun j hj => (O3.out.lt j hj).1))
              have O4 := hide ho4
              have E4 := hide hnn4
              clear ho4 hg4 hf4 hnn4
              try go_simp
              refine hK.out _ _ trivial (fun hHeld2 => ?_)
              clear hK K hHeld
              have hHeld := hHeld2
              clear hHeld2
              refine wpU_ready (rs := [11]) (by kernel_rfl) (by simp) ?_
              refine AllU.cons (by decide) rfl (fun K hK => ?_) AllU.nil
              refine dstep_wanted rfl (dwp_strs _ _ rfl w.heap.size _ nn4 ((ss.take N) ++ [x]) rfl O4.out _ (ss.drop N) rfl (HDR.out.below B4.out) (by have := LD.out; have := LT.out; have := LD.out; have h30 := E2.out; have h31 := E4.out; have := L1.out; omega) B4.out.size ?_)
              intro v5 w5 ho5 hg5 hf5
              obtain ⟨nn5, hnn5⟩ : ∃ z, z = nn4 + ((ss.drop N) : List ByteArray).length := ⟨_, rfl⟩
              rw [← hnn5] at ho5
              obtain ⟨p5, c5, rfl, -⟩ := own_shape ho5
              have B5 : Hid (Below w.heap.size w w5) := hide (B4.out.grown hg5 B4.out.size (fun j hj => (O4.out.lt j hj).1))
              have O5 := hide ho5
              have E5 := hide hnn5
              clear ho5 hg5 hf5 hnn5
              try go_simp
              refine hK.out _ _ trivial (fun hHeld2 => ?_)
              clear hK K hHeld
              have hHeld := hHeld2
              clear hHeld2
              refine wpU_ready (rs := [12]) (by kernel_rfl) (by simp) ?_
              refine AllU.last rfl (fun K hK => ?_)
              go_simp
              try go_wp2_with fail
              refine hK.out _ _ ?_
              clear hK K
              refine wpAny_done (by kernel_rfl) ?_ _
              go_wp2_with fail
              go_ret
              have HL : Hid (((((ss.take N) ++ [x]) ++ (ss.drop N)) : List ByteArray).length = nn5) := hide (by have h1 := LT.out; have h2 := LD.out; have h30 := E2.out; have h31 := E4.out; have h32 := E5.out; simp only [List.length_append, List.length_cons, List.length_nil] at *; omega)
              exact ⟨⟨_, _, rfl, ⟨strCap_own (B := w.heap.size) (by rw [HL.out]; exact O5.out), fun e => by have := HL.out; rw [e] at this; simp at e⟩, HPUT.out⟩, B5.out⟩
            · go_simp
              try go_wp2_with fail
              obtain ⟨wa6, hwa6⟩ : ∃ z, z = wa1.alloc (.cells #[.string x] 9) := ⟨_, rfl⟩
              have B6 : Hid (Below w.heap.size w wa6) := hide (by rw [hwa6]; exact bel_alloc B1.out _)
              have X6 : Hid (XB wa6 x wa1.heap.size) := hide (by rw [hwa6]; exact XB.new _ _)
              have O6 : Hid (wa6.ownsRow w.heap.size 9 1 (.slice (some ⟨wd.heap.size, 0, none⟩) 0 0) 0 (strV [])) := hide (by rw [hwa6]; exact O1.out.alloc _)
              have P6 : Hid ((Value.ownBlock (.slice (some ⟨wd.heap.size, 0, none⟩) 0 0)) ≠ some wa1.heap.size) := hide (fun e => by have h := (O1.out.lt _ e).2; omega)
              rw [← hwa6]
              clear hwa6
              refine hK.out _ _ trivial (fun hHeld2 => ?_)
              clear hK K hHeld
              have hHeld := hHeld2
              clear hHeld2
              refine wpU_ready (rs := [4]) (by kernel_rfl) (by simp) ?_
              refine AllU.cons (by decide) rfl (fun K hK => ?_) AllU.nil
              refine dstep_wanted rfl (dwp_strs _ _ rfl w.heap.size _ 0 [] rfl O6.out _ (ss.take N) rfl (HT.out.below B6.out) (by have := LT.out; have := LT.out; have := LD.out;  have := L1.out; omega) B6.out.size ?_)
              intro v7 w7 ho7 hg7 hf7
              obtain ⟨nn7, hnn7⟩ : ∃ z, z = 0 + ((ss.take N) : List ByteArray).length := ⟨_, rfl⟩
              rw [← hnn7] at ho7
              obtain ⟨p7, c7, rfl, -⟩ := own_shape ho7
              have B7 : Hid (Below w.heap.size w w7) := hide (B6.out.grown hg7 B6.out.size (fun j hj => (O6.out.lt j hj).1))
              have O7 := hide ho7
              have O7 : Hid (w7.ownsRow w.heap.size 9 1 (.slice p7 nn7 c7) nn7 (strV (ss.take N))) := O7
              have E7 := hide hnn7
              have X7 : Hid (XB w7 x wa1.heap.size) := hide (X6.out.grown hg7 P6.out)
              have P7 : Hid ((Value.ownBlock (.slice p7 nn7 c7)) ≠ some wa1.heap.size) := hide (fun e => by
                rcases hf7 with h | h
                · exact P6.out (h.symm.trans e)
                · rw [h] at e; injection e with e; have := X6.out.lt; omega)
              clear ho7 hg7 hf7 hnn7
              try go_simp
              refine hK.out _ _ trivial (fun hHeld2 => ?_)
              clear hK K hHeld
              have hHeld := hHeld2
              clear hHeld2
              refine wpU_ready (rs := [7]) (by kernel_rfl) (by simp) ?_
              refine AllU.cons (by decide) rfl (fun K hK => ?_) AllU.nil
              refine dstep_wanted rfl (dwp_strs _ _ rfl w.heap.size _ nn7 (ss.take N) rfl O7.out _ [x] rfl X7.out.arg (by have := L1.out; have := LT.out; have := LD.out; have h30 := E7.out; have := L1.out; omega) B7.out.size ?_)
              intro v8 w8 ho8 hg8 hf8
              obtain ⟨nn8, hnn8⟩ : ∃ z, z = nn7 + ([x] : List ByteArray).length := ⟨_, rfl⟩
              rw [← hnn8] at ho8
              obtain ⟨p8, c8, rfl, -⟩ := own_shape ho8
              have B8 : Hid (Below w.heap.size w w8) := hide (B7.out.grown hg8 B7.out.size (fun j hj => (O7.out.lt j hj).1))
              have O8 := hide ho8
              have E8 := hide hnn8
              clear ho8 hg8 hf8 hnn8
              try go_simp
              refine hK.out _ _ trivial (fun hHeld2 => ?_)
              clear hK K hHeld
              have hHeld := hHeld2
              clear hHeld2
              refine wpU_ready (rs := [11]) (by kernel_rfl) (by simp) ?_
              refine AllU.cons (by decide) rfl (fun K hK => ?_) AllU.nil
              refine dstep_wanted rfl (dwp_strs _ _ rfl w.heap.size _ nn8 ((ss.take N) ++ [x]) rfl O8.out _ (ss.drop N) rfl (HDR.out.below B8.out) (by have := LD.out; have := LT.out; have := LD.out; have h30 := E7.out; have h31 := E8.out; have := L1.out; omega) B8.out.size ?_)
              intro v9 w9 ho9 hg9 hf9
              obtain ⟨nn9, hnn9⟩ : ∃ z, z = nn8 + ((ss.drop N) : List ByteArray).length := ⟨_, rfl⟩
              rw [← hnn9] at ho9
              obtain ⟨p9, c9, rfl, -⟩ := own_shape ho9
              have B9 : Hid (Below w.heap.size w w9) := hide (B8.out.grown hg9 B8.out.size (fun j hj => (O8.out.lt j hj).1))
              have O9 := hide ho9
              have E9 := hide hnn9
              clear ho9 hg9 hf9 hnn9
              try go_simp
              refine hK.out _ _ trivial (fun hHeld2 => ?_)
              clear hK K hHeld
              have hHeld := hHeld2
              clear hHeld2
              refine wpU_ready (rs := [12]) (by kernel_rfl) (by simp) ?_
              refine AllU.last rfl (fun K hK => ?_)
              go_simp
              try go_wp2_with fail
              refine hK.out _ _ ?_
              clear hK K
              refine wpAny_done (by kernel_rfl) ?_ _
              go_wp2_with fail
              go_ret
              have HL : Hid (((((ss.take N) ++ [x]) ++ (ss.drop N)) : List ByteArray).length = nn9) := hide (by have h1 := LT.out; have h2 := LD.out; have h30 := E7.out; have h31 := E8.out; have h32 := E9.out; simp only [List.length_append, List.length_cons, List.length_nil] at *; omega)
              exact ⟨⟨_, _, rfl, ⟨strCap_own (B := w.heap.size) (by rw [HL.out]; exact O9.out), fun e => by have := HL.out; rw [e] at this; simp at e⟩, HPUT.out⟩, B9.out⟩
          · go_simp
            try go_wp2_with fail
            obtain ⟨wa10, hwa10⟩ : ∃ z, z = wd.alloc (.cells #[.string x] 9) := ⟨_, rfl⟩
            have B10 : Hid (Below w.heap.size w wa10) := hide (by rw [hwa10]; exact bel_alloc BE.out _)
            have X10 : Hid (XB wa10 x wd.heap.size) := hide (by rw [hwa10]; exact XB.new _ _)
            rw [← hwa10]
            clear hwa10
            refine hK.out _ _ trivial (fun hHeld2 => ?_)
            clear hK K hHeld
            have hHeld := hHeld2
            clear hHeld2
            refine wpU_ready (rs := [0]) (by kernel_rfl) (by simp) ?_
            refine AllU.cons (by decide) rfl (fun K hK => ?_) AllU.nil
            go_simp
            try go_wp2_with fail
            obtain ⟨wa11, hwa11⟩ : ∃ z, z = wa10.alloc (.cells #[] 9) := ⟨_, rfl⟩
            have B11 : Hid (Below w.heap.size w wa11) := hide (by rw [hwa11]; exact bel_alloc B10.out _)
            have O11 : Hid (wa11.ownsRow w.heap.size 9 1 (.slice (some ⟨wa10.heap.size, 0, none⟩) 0 0) 0 (strV [])) := hide (by rw [hwa11]; exact own_empty _ _ B10.out.size)
            have X11 : Hid (XB wa11 x wd.heap.size) := hide (by rw [hwa11]; exact X10.out.alloc _)
            have P11 : Hid ((Value.slice (some ⟨wa10.heap.size, 0, none⟩) 0 0).ownBlock ≠ some wd.heap.size) := hide (fun e => by
              have h := X10.out.lt
              have e2 : wa10.heap.size = wd.heap.size := by simpa [Value.ownBlock] using e
              omega)
            rw [← hwa11]
            clear hwa11
            refine hK.out _ _ trivial (fun hHeld2 => ?_)
            clear hK K hHeld
            have hHeld := hHeld2
            clear hHeld2
            refine wpU_ready (rs := [4]) (by kernel_rfl) (by simp) ?_
            refine AllU.cons (by decide) rfl (fun K hK => ?_) AllU.nil
            refine dstep_wanted rfl (dwp_strs _ _ rfl w.heap.size _ 0 [] rfl O11.out _ (ss.take N) rfl (HT.out.below B11.out) (by have := LT.out; have := LT.out; have := LD.out;  have := L1.out; omega) B11.out.size ?_)
            intro v12 w12 ho12 hg12 hf12
            obtain ⟨nn12, hnn12⟩ : ∃ z, z = 0 + ((ss.take N) : List ByteArray).length := ⟨_, rfl⟩
            rw [← hnn12] at ho12
            obtain ⟨p12, c12, rfl, -⟩ := own_shape ho12
            have B12 : Hid (Below w.heap.size w w12) := hide (B11.out.grown hg12 B11.out.size (fun j hj => (O11.out.lt j hj).1))
            have O12 := hide ho12
            have O12 : Hid (w12.ownsRow w.heap.size 9 1 (.slice p12 nn12 c12) nn12 (strV (ss.take N))) := O12
            have E12 := hide hnn12
            have X12 : Hid (XB w12 x wd.heap.size) := hide (X11.out.grown hg12 P11.out)
            have P12 : Hid ((Value.ownBlock (.slice p12 nn12 c12)) ≠ some wd.heap.size) := hide (fun e => by
              rcases hf12 with h | h
              · exact P11.out (h.symm.trans e)
              · rw [h] at e; injection e with e; have := X11.out.lt; omega)
            clear ho12 hg12 hf12 hnn12
            try go_simp
            refine hK.out _ _ trivial (fun hHeld2 => ?_)
            clear hK K hHeld
            have hHeld := hHeld2
            clear hHeld2
            refine wpU_ready (rs := [7]) (by kernel_rfl) (by simp) ?_
            refine AllU.cons (by decide) rfl (fun K hK => ?_) AllU.nil
            refine dstep_wanted rfl (dwp_strs _ _ rfl w.heap.size _ nn12 (ss.take N) rfl O12.out _ [x] rfl X12.out.arg (by have := L1.out; have := LT.out; have := LD.out; have h30 := E12.out; have := L1.out; omega) B12.out.size ?_)
            intro v13 w13 ho13 hg13 hf13
            obtain ⟨nn13, hnn13⟩ : ∃ z, z = nn12 + ([x] : List ByteArray).length := ⟨_, rfl⟩
            rw [← hnn13] at ho13
            obtain ⟨p13, c13, rfl, -⟩ := own_shape ho13
            have B13 : Hid (Below w.heap.size w w13) := hide (B12.out.grown hg13 B12.out.size (fun j hj => (O12.out.lt j hj).1))
            have O13 := hide ho13
            have E13 := hide hnn13
            clear ho13 hg13 hf13 hnn13
            try go_simp
            refine hK.out _ _ trivial (fun hHeld2 => ?_)
            clear hK K hHeld
            have hHeld := hHeld2
            clear hHeld2
            refine wpU_ready (rs := [11]) (by kernel_rfl) (by simp) ?_
            refine AllU.cons (by decide) rfl (fun K hK => ?_) AllU.nil
            refine dstep_wanted rfl (dwp_strs _ _ rfl w.heap.size _ nn13 ((ss.take N) ++ [x]) rfl O13.out _ (ss.drop N) rfl (HDR.out.below B13.out) (by have := LD.out; have := LT.out; have := LD.out; have h30 := E12.out; have h31 := E13.out; have := L1.out; omega) B13.out.size ?_)
            intro v14 w14 ho14 hg14 hf14
            obtain ⟨nn14, hnn14⟩ : ∃ z, z = nn13 + ((ss.drop N) : List ByteArray).length := ⟨_, rfl⟩
            rw [← hnn14] at ho14
            obtain ⟨p14, c14, rfl, -⟩ := own_shape ho14
            have B14 : Hid (Below w.heap.size w w14) := hide (B13.out.grown hg14 B13.out.size (fun j hj => (O13.out.lt j hj).1))
            have O14 := hide ho14
            have E14 := hide hnn14
            clear ho14 hg14 hf14 hnn14
            try go_simp
            refine hK.out _ _ trivial (fun hHeld2 => ?_)
            clear hK K hHeld
            have hHeld := hHeld2
            clear hHeld2
            refine wpU_ready (rs := [12]) (by kernel_rfl) (by simp) ?_
            refine AllU.last rfl (fun K hK => ?_)
            go_simp
            try go_wp2_with fail
            refine hK.out _ _ ?_
            clear hK K
            refine wpAny_done (by kernel_rfl) ?_ _
            go_wp2_with fail
            go_ret
            have HL : Hid (((((ss.take N) ++ [x]) ++ (ss.drop N)) : List ByteArray).length = nn14) := hide (by have h1 := LT.out; have h2 := LD.out; have h30 := E12.out; have h31 := E13.out; have h32 := E14.out; simp only [List.length_append, List.length_cons, List.length_nil] at *; omega)
            exact ⟨⟨_, _, rfl, ⟨strCap_own (B := w.heap.size) (by rw [HL.out]; exact O14.out), fun e => by have := HL.out; rw [e] at this; simp at e⟩, HPUT.out⟩, B14.out⟩
        · have HDR : Hid (StrArg w (.slice (some ⟨b, off + N, none⟩) 0 (c - N)) (ss.drop N)) := hide (by
            rw [e0]
            exact strArg_none)
          have hcn : ¬ c = N := fun e => hcj e.symm
          clear HI e0
          go_wp2_with fail
          refine wp_region_until (m := 12) (S := (fun _ => True)) (by kernel_rfl) trivial (fun hHeld => ?_)
          obtain ⟨wd, hwd⟩ : ∃ z, z = w.drew := ⟨_, rfl⟩
          have BE : Hid (Below w.heap.size w wd) := hide (by rw [hwd]; exact BD.out)
          rw [← hwd]
          clear hwd
          refine wpU_at (i := 1) (v := ?vqd1) (a1 := ?xqd1) rfl (by kernel_rfl) (by kernel_rfl) (by kernel_rfl) (by kernel_rfl) (fun _ _ _ h => h) (Or.inl ⟨by rfl, ?yqd1⟩) trivial ?hqd1 ?zqd1
          case yqd1 => (intro w hSw; (try dsimp only at hSw); go_simp; try (with_reducible rfl))
          case hqd1 => (go_simp; exact rfl)
          case zqd1 =>
          refine wpU_at (i := 2) (v := ?vqd2) (a1 := ?xqd2) rfl (by kernel_rfl) (by kernel_rfl) (by kernel_rfl) (by kernel_rfl) (fun _ _ _ h => h) (Or.inl ⟨by rfl, ?yqd2⟩) trivial ?hqd2 ?zqd2
          case yqd2 => (intro w hSw; (try dsimp only at hSw); go_simp; try (with_reducible rfl))
          case hqd2 => (go_simp; exact rfl)
          case zqd2 =>
          refine wpU_at (i := 3) (v := ?vqd3) (a1 := ?xqd3) rfl (by kernel_rfl) (by kernel_rfl) (by kernel_rfl) (by kernel_rfl) (fun _ _ _ h => h) (Or.inl ⟨by rfl, ?yqd3⟩) trivial ?hqd3 ?zqd3
          case yqd3 => (intro w hSw; (try dsimp only at hSw); go_simp; try (with_reducible rfl))
          case hqd3 => (go_simp; exact rfl)
          case zqd3 =>
          refine wpU_at (i := 5) (v := ?vqd5) (a1 := ?xqd5) rfl (by kernel_rfl) (by kernel_rfl) (by kernel_rfl) (by kernel_rfl) (fun _ _ _ h => h) (Or.inl ⟨by rfl, ?yqd5⟩) trivial ?hqd5 ?zqd5
          case yqd5 => (intro w hSw; (try dsimp only at hSw); go_simp; try (with_reducible rfl))
          case hqd5 => (go_simp; exact rfl)
          case zqd5 =>
          refine wpU_at (i := 8) (v := ?vqd8) (a1 := ?xqd8) rfl (by kernel_rfl) (by kernel_rfl) (by kernel_rfl) (by kernel_rfl) (fun _ _ _ h => h) (Or.inl ⟨by rfl, ?yqd8⟩) trivial ?hqd8 ?zqd8
          case yqd8 => (intro w hSw; (try dsimp only at hSw); go_simp; try (with_reducible rfl))
          case hqd8 => (go_simp; exact rfl)
          case zqd8 =>
          refine wpU_at (i := 9) (v := ?vqd9) (a1 := ?xqd9) rfl (by kernel_rfl) (by kernel_rfl) (by kernel_rfl) (by kernel_rfl) (fun _ _ _ h => h) (Or.inl ⟨by rfl, ?yqd9⟩) trivial ?hqd9 ?zqd9
          case yqd9 => (intro w hSw; (try dsimp only at hSw); go_simp; try (with_reducible rfl))
          case hqd9 => (go_simp; exact rfl)
          case zqd9 =>
          refine wpU_at (i := 10) (v := ?vqd10) (a1 := ?xqd10) rfl (by kernel_rfl) (by kernel_rfl) (by kernel_rfl) (by kernel_rfl) (fun _ _ _ h => h) (Or.inl ⟨by rfl, ?yqd10⟩) trivial ?hqd10 ?zqd10
          case yqd10 => (intro w hSw; (try dsimp only at hSw); go_simp; try (with_reducible rfl))
          case hqd10 => (go_simp; exact rfl)
          case zqd10 =>
          refine wpU_ready (rs := [0, 6]) (by kernel_rfl) (by simp) ?_
          refine AllU.cons (by decide) rfl (fun K hK => ?_) (AllU.cons (by decide) rfl (fun K hK => ?_) AllU.nil)
          · go_simp
            try go_wp2_with fail
            obtain ⟨wa1, hwa1⟩ : ∃ z, z = wd.alloc (.cells #[] 9) := ⟨_, rfl⟩
            have B1 : Hid (Below w.heap.size w wa1) := hide (by rw [hwa1]; exact bel_alloc BE.out _)
            have O1 : Hid (wa1.ownsRow w.heap.size 9 1 (.slice (some ⟨wd.heap.size, 0, none⟩) 0 0) 0 (strV [])) := hide (by rw [hwa1]; exact own_empty _ _ BE.out.size)
            rw [← hwa1]
            clear hwa1
            refine hK.out _ _ trivial (fun hHeld2 => ?_)
            clear hK K hHeld
            have hHeld := hHeld2
            clear hHeld2
            refine wpU_ready (rs := [4, 6]) (by kernel_rfl) (by simp) ?_
            refine AllU.cons (by decide) rfl (fun K hK => ?_) (AllU.cons (by decide) rfl (fun K hK => ?_) AllU.nil)
            · refine dstep_wanted rfl (dwp_strs _ _ rfl w.heap.size _ 0 [] rfl O1.out _ (ss.take N) rfl (HT.out.below B1.out) (by have := LT.out; have := LT.out; have := LD.out;  have := L1.out; omega) B1.out.size ?_)
              intro v2 w2 ho2 hg2 hf2
              obtain ⟨nn2, hnn2⟩ : ∃ z, z = 0 + ((ss.take N) : List ByteArray).length := ⟨_, rfl⟩
              rw [← hnn2] at ho2
              obtain ⟨p2, c2, rfl, -⟩ := own_shape ho2
              have B2 : Hid (Below w.heap.size w w2) := hide (B1.out.grown hg2 B1.out.size (fun j hj => (O1.out.lt j hj).1))
              have O2 := hide ho2
              have O2 : Hid (w2.ownsRow w.heap.size 9 1 (.slice p2 nn2 c2) nn2 (strV (ss.take N))) := O2
              have E2 := hide hnn2
              clear ho2 hg2 hf2 hnn2
              try go_simp
              refine hK.out _ _ trivial (fun hHeld2 => ?_)
              clear hK K hHeld
              have hHeld := hHeld2
              clear hHeld2
              refine wpU_ready (rs := [6]) (by kernel_rfl) (by simp) ?_
              refine AllU.cons (by decide) rfl (fun K hK => ?_) AllU.nil
              go_simp
              try go_wp2_with fail
              obtain ⟨wa3, hwa3⟩ : ∃ z, z = w2.alloc (.cells #[.string x] 9) := ⟨_, rfl⟩
              have B3 : Hid (Below w.heap.size w wa3) := hide (by rw [hwa3]; exact bel_alloc B2.out _)
              have X3 : Hid (XB wa3 x w2.heap.size) := hide (by rw [hwa3]; exact XB.new _ _)
              have O3 : Hid (wa3.ownsRow w.heap.size 9 1 (.slice p2 nn2 c2) nn2 (strV (ss.take N))) := hide (by rw [hwa3]; exact O2.out.alloc _)
              have P3 : Hid ((Value.ownBlock (.slice p2 nn2 c2)) ≠ some w2.heap.size) := hide (fun e => by have h := (O2.out.lt _ e).2; omega)
              rw [← hwa3]
              clear hwa3
              refine hK.out _ _ trivial (fun hHeld2 => ?_)
              clear hK K hHeld
              have hHeld := hHeld2
              clear hHeld2
              refine wpU_ready (rs := [7]) (by kernel_rfl) (by simp) ?_
              refine AllU.cons (by decide) rfl (fun K hK => ?_) AllU.nil
              refine dstep_wanted rfl (dwp_strs _ _ rfl w.heap.size _ nn2 (ss.take N) rfl O3.out _ [x] rfl X3.out.arg (by have := L1.out; have := LT.out; have := LD.out; have h30 := E2.out; have := L1.out; omega) B3.out.size ?_)
              intro v4 w4 ho4 hg4 hf4
              obtain ⟨nn4, hnn4⟩ : ∃ z, z = nn2 + ([x] : List ByteArray).length := ⟨_, rfl⟩
              rw [← hnn4] at ho4
              obtain ⟨p4, c4, rfl, -⟩ := own_shape ho4
              have B4 : Hid (Below w.heap.size w w4) := hide (B3.out.grown hg4 B3.out.size (fun j hj => (O3.out.lt j hj).1))
              have O4 := hide ho4
              have E4 := hide hnn4
              clear ho4 hg4 hf4 hnn4
              try go_simp
              refine hK.out _ _ trivial (fun hHeld2 => ?_)
              clear hK K hHeld
              have hHeld := hHeld2
              clear hHeld2
              refine wpU_ready (rs := [11]) (by kernel_rfl) (by simp) ?_
              refine AllU.cons (by decide) rfl (fun K hK => ?_) AllU.nil
              refine dstep_wanted rfl (dwp_strs _ _ rfl w.heap.size _ nn4 ((ss.take N) ++ [x]) rfl O4.out _ (ss.drop N) rfl (HDR.out.below B4.out) (by have := LD.out; have := LT.out; have := LD.out; have h30 := E2.out; have h31 := E4.out; have := L1.out; omega) B4.out.size ?_)
              intro v5 w5 ho5 hg5 hf5
              obtain ⟨nn5, hnn5⟩ : ∃ z, z = nn4 + ((ss.drop N) : List ByteArray).length := ⟨_, rfl⟩
              rw [← hnn5] at ho5
              obtain ⟨p5, c5, rfl, -⟩ := own_shape ho5
              have B5 : Hid (Below w.heap.size w w5) := hide (B4.out.grown hg5 B4.out.size (fun j hj => (O4.out.lt j hj).1))
              have O5 := hide ho5
              have E5 := hide hnn5
              clear ho5 hg5 hf5 hnn5
              try go_simp
              refine hK.out _ _ trivial (fun hHeld2 => ?_)
              clear hK K hHeld
              have hHeld := hHeld2
              clear hHeld2
              refine wpU_ready (rs := [12]) (by kernel_rfl) (by simp) ?_
              refine AllU.last rfl (fun K hK => ?_)
              go_simp
              try go_wp2_with fail
              refine hK.out _ _ ?_
              clear hK K
              refine wpAny_done (by kernel_rfl) ?_ _
              go_wp2_with fail
              go_ret
              have HL : Hid (((((ss.take N) ++ [x]) ++ (ss.drop N)) : List ByteArray).length = nn5) := hide (by have h1 := LT.out; have h2 := LD.out; have h30 := E2.out; have h31 := E4.out; have h32 := E5.out; simp only [List.length_append, List.length_cons, List.length_nil] at *; omega)
              exact ⟨⟨_, _, rfl, ⟨strCap_own (B := w.heap.size) (by rw [HL.out]; exact O5.out), fun e => by have := HL.out; rw [e] at this; simp at e⟩, HPUT.out⟩, B5.out⟩
            · go_simp
              try go_wp2_with fail
              obtain ⟨wa6, hwa6⟩ : ∃ z, z = wa1.alloc (.cells #[.string x] 9) := ⟨_, rfl⟩
              have B6 : Hid (Below w.heap.size w wa6) := hide (by rw [hwa6]; exact bel_alloc B1.out _)
              have X6 : Hid (XB wa6 x wa1.heap.size) := hide (by rw [hwa6]; exact XB.new _ _)
              have O6 : Hid (wa6.ownsRow w.heap.size 9 1 (.slice (some ⟨wd.heap.size, 0, none⟩) 0 0) 0 (strV [])) := hide (by rw [hwa6]; exact O1.out.alloc _)
              have P6 : Hid ((Value.ownBlock (.slice (some ⟨wd.heap.size, 0, none⟩) 0 0)) ≠ some wa1.heap.size) := hide (fun e => by have h := (O1.out.lt _ e).2; omega)
              rw [← hwa6]
              clear hwa6
              refine hK.out _ _ trivial (fun hHeld2 => ?_)
              clear hK K hHeld
              have hHeld := hHeld2
              clear hHeld2
              refine wpU_ready (rs := [4]) (by kernel_rfl) (by simp) ?_
              refine AllU.cons (by decide) rfl (fun K hK => ?_) AllU.nil
              refine dstep_wanted rfl (dwp_strs _ _ rfl w.heap.size _ 0 [] rfl O6.out _ (ss.take N) rfl (HT.out.below B6.out) (by have := LT.out; have := LT.out; have := LD.out;  have := L1.out; omega) B6.out.size ?_)
              intro v7 w7 ho7 hg7 hf7
              obtain ⟨nn7, hnn7⟩ : ∃ z, z = 0 + ((ss.take N) : List ByteArray).length := ⟨_, rfl⟩
              rw [← hnn7] at ho7
              obtain ⟨p7, c7, rfl, -⟩ := own_shape ho7
              have B7 : Hid (Below w.heap.size w w7) := hide (B6.out.grown hg7 B6.out.size (fun j hj => (O6.out.lt j hj).1))
              have O7 := hide ho7
              have O7 : Hid (w7.ownsRow w.heap.size 9 1 (.slice p7 nn7 c7) nn7 (strV (ss.take N))) := O7
              have E7 := hide hnn7
              have X7 : Hid (XB w7 x wa1.heap.size) := hide (X6.out.grown hg7 P6.out)
              have P7 : Hid ((Value.ownBlock (.slice p7 nn7 c7)) ≠ some wa1.heap.size) := hide (fun e => by
                rcases hf7 with h | h
                · exact P6.out (h.symm.trans e)
                · rw [h] at e; injection e with e; have := X6.out.lt; omega)
              clear ho7 hg7 hf7 hnn7
              try go_simp
              refine hK.out _ _ trivial (fun hHeld2 => ?_)
              clear hK K hHeld
              have hHeld := hHeld2
              clear hHeld2
              refine wpU_ready (rs := [7]) (by kernel_rfl) (by simp) ?_
              refine AllU.cons (by decide) rfl (fun K hK => ?_) AllU.nil
              refine dstep_wanted rfl (dwp_strs _ _ rfl w.heap.size _ nn7 (ss.take N) rfl O7.out _ [x] rfl X7.out.arg (by have := L1.out; have := LT.out; have := LD.out; have h30 := E7.out; have := L1.out; omega) B7.out.size ?_)
              intro v8 w8 ho8 hg8 hf8
              obtain ⟨nn8, hnn8⟩ : ∃ z, z = nn7 + ([x] : List ByteArray).length := ⟨_, rfl⟩
              rw [← hnn8] at ho8
              obtain ⟨p8, c8, rfl, -⟩ := own_shape ho8
              have B8 : Hid (Below w.heap.size w w8) := hide (B7.out.grown hg8 B7.out.size (fun j hj => (O7.out.lt j hj).1))
              have O8 := hide ho8
              have E8 := hide hnn8
              clear ho8 hg8 hf8 hnn8
              try go_simp
              refine hK.out _ _ trivial (fun hHeld2 => ?_)
              clear hK K hHeld
              have hHeld := hHeld2
              clear hHeld2
              refine wpU_ready (rs := [11]) (by kernel_rfl) (by simp) ?_
              refine AllU.cons (by decide) rfl (fun K hK => ?_) AllU.nil
              refine dstep_wanted rfl (dwp_strs _ _ rfl w.heap.size _ nn8 ((ss.take N) ++ [x]) rfl O8.out _ (ss.drop N) rfl (HDR.out.below B8.out) (by have := LD.out; have := LT.out; have := LD.out; have h30 := E7.out; have h31 := E8.out; have := L1.out; omega) B8.out.size ?_)
              intro v9 w9 ho9 hg9 hf9
              obtain ⟨nn9, hnn9⟩ : ∃ z, z = nn8 + ((ss.drop N) : List ByteArray).length := ⟨_, rfl⟩
              rw [← hnn9] at ho9
              obtain ⟨p9, c9, rfl, -⟩ := own_shape ho9
              have B9 : Hid (Below w.heap.size w w9) := hide (B8.out.grown hg9 B8.out.size (fun j hj => (O8.out.lt j hj).1))
              have O9 := hide ho9
              have E9 := hide hnn9
              clear ho9 hg9 hf9 hnn9
              try go_simp
              refine hK.out _ _ trivial (fun hHeld2 => ?_)
              clear hK K hHeld
              have hHeld := hHeld2
              clear hHeld2
              refine wpU_ready (rs := [12]) (by kernel_rfl) (by simp) ?_
              refine AllU.last rfl (fun K hK => ?_)
              go_simp
              try go_wp2_with fail
              refine hK.out _ _ ?_
              clear hK K
              refine wpAny_done (by kernel_rfl) ?_ _
              go_wp2_with fail
              go_ret
              have HL : Hid (((((ss.take N) ++ [x]) ++ (ss.drop N)) : List ByteArray).length = nn9) := hide (by have h1 := LT.out; have h2 := LD.out; have h30 := E7.out; have h31 := E8.out; have h32 := E9.out; simp only [List.length_append, List.length_cons, List.length_nil] at *; omega)
              exact ⟨⟨_, _, rfl, ⟨strCap_own (B := w.heap.size) (by rw [HL.out]; exact O9.out), fun e => by have := HL.out; rw [e] at this; simp at e⟩, HPUT.out⟩, B9.out⟩
          · go_simp
            try go_wp2_with fail
            obtain ⟨wa10, hwa10⟩ : ∃ z, z = wd.alloc (.cells #[.string x] 9) := ⟨_, rfl⟩
            have B10 : Hid (Below w.heap.size w wa10) := hide (by rw [hwa10]; exact bel_alloc BE.out _)
            have X10 : Hid (XB wa10 x wd.heap.size) := hide (by rw [hwa10]; exact XB.new _ _)
            rw [← hwa10]
            clear hwa10
            refine hK.out _ _ trivial (fun hHeld2 => ?_)
            clear hK K hHeld
            have hHeld := hHeld2
            clear hHeld2
            refine wpU_ready (rs := [0]) (by kernel_rfl) (by simp) ?_
            refine AllU.cons (by decide) rfl (fun K hK => ?_) AllU.nil
            go_simp
            try go_wp2_with fail
            obtain ⟨wa11, hwa11⟩ : ∃ z, z = wa10.alloc (.cells #[] 9) := ⟨_, rfl⟩
            have B11 : Hid (Below w.heap.size w wa11) := hide (by rw [hwa11]; exact bel_alloc B10.out _)
            have O11 : Hid (wa11.ownsRow w.heap.size 9 1 (.slice (some ⟨wa10.heap.size, 0, none⟩) 0 0) 0 (strV [])) := hide (by rw [hwa11]; exact own_empty _ _ B10.out.size)
            have X11 : Hid (XB wa11 x wd.heap.size) := hide (by rw [hwa11]; exact X10.out.alloc _)
            have P11 : Hid ((Value.slice (some ⟨wa10.heap.size, 0, none⟩) 0 0).ownBlock ≠ some wd.heap.size) := hide (fun e => by
              have h := X10.out.lt
              have e2 : wa10.heap.size = wd.heap.size := by simpa [Value.ownBlock] using e
              omega)
            rw [← hwa11]
            clear hwa11
            refine hK.out _ _ trivial (fun hHeld2 => ?_)
            clear hK K hHeld
            have hHeld := hHeld2
            clear hHeld2
            refine wpU_ready (rs := [4]) (by kernel_rfl) (by simp) ?_
            refine AllU.cons (by decide) rfl (fun K hK => ?_) AllU.nil
            refine dstep_wanted rfl (dwp_strs _ _ rfl w.heap.size _ 0 [] rfl O11.out _ (ss.take N) rfl (HT.out.below B11.out) (by have := LT.out; have := LT.out; have := LD.out;  have := L1.out; omega) B11.out.size ?_)
            intro v12 w12 ho12 hg12 hf12
            obtain ⟨nn12, hnn12⟩ : ∃ z, z = 0 + ((ss.take N) : List ByteArray).length := ⟨_, rfl⟩
            rw [← hnn12] at ho12
            obtain ⟨p12, c12, rfl, -⟩ := own_shape ho12
            have B12 : Hid (Below w.heap.size w w12) := hide (B11.out.grown hg12 B11.out.size (fun j hj => (O11.out.lt j hj).1))
            have O12 := hide ho12
            have O12 : Hid (w12.ownsRow w.heap.size 9 1 (.slice p12 nn12 c12) nn12 (strV (ss.take N))) := O12
            have E12 := hide hnn12
            have X12 : Hid (XB w12 x wd.heap.size) := hide (X11.out.grown hg12 P11.out)
            have P12 : Hid ((Value.ownBlock (.slice p12 nn12 c12)) ≠ some wd.heap.size) := hide (fun e => by
              rcases hf12 with h | h
              · exact P11.out (h.symm.trans e)
              · rw [h] at e; injection e with e; have := X11.out.lt; omega)
            clear ho12 hg12 hf12 hnn12
            try go_simp
            refine hK.out _ _ trivial (fun hHeld2 => ?_)
            clear hK K hHeld
            have hHeld := hHeld2
            clear hHeld2
            refine wpU_ready (rs := [7]) (by kernel_rfl) (by simp) ?_
            refine AllU.cons (by decide) rfl (fun K hK => ?_) AllU.nil
            refine dstep_wanted rfl (dwp_strs _ _ rfl w.heap.size _ nn12 (ss.take N) rfl O12.out _ [x] rfl X12.out.arg (by have := L1.out; have := LT.out; have := LD.out; have h30 := E12.out; have := L1.out; omega) B12.out.size ?_)
            intro v13 w13 ho13 hg13 hf13
            obtain ⟨nn13, hnn13⟩ : ∃ z, z = nn12 + ([x] : List ByteArray).length := ⟨_, rfl⟩
            rw [← hnn13] at ho13
            obtain ⟨p13, c13, rfl, -⟩ := own_shape ho13
            have B13 : Hid (Below w.heap.size w w13) := hide (B12.out.grown hg13 B12.out.size (fun j hj => (O12.out.lt j hj).1))
            have O13 := hide ho13
            have E13 := hide hnn13
            clear ho13 hg13 hf13 hnn13
            try go_simp
            refine hK.out _ _ trivial (fun hHeld2 => ?_)
            clear hK K hHeld
            have hHeld := hHeld2
            clear hHeld2
            refine wpU_ready (rs := [11]) (by kernel_rfl) (by simp) ?_
            refine AllU.cons (by decide) rfl (fun K hK => ?_) AllU.nil
            refine dstep_wanted rfl (dwp_strs _ _ rfl w.heap.size _ nn13 ((ss.take N) ++ [x]) rfl O13.out _ (ss.drop N) rfl (HDR.out.below B13.out) (by have := LD.out; have := LT.out; have := LD.out; have h30 := E12.out; have h31 := E13.out; have := L1.out; omega) B13.out.size ?_)
            intro v14 w14 ho14 hg14 hf14
            obtain ⟨nn14, hnn14⟩ : ∃ z, z = nn13 + ((ss.drop N) : List ByteArray).length := ⟨_, rfl⟩
            rw [← hnn14] at ho14
            obtain ⟨p14, c14, rfl, -⟩ := own_shape ho14
            have B14 : Hid (Below w.heap.size w w14) := hide (B13.out.grown hg14 B13.out.size (fun j hj => (O13.out.lt j hj).1))
            have O14 := hide ho14
            have E14 := hide hnn14
            clear ho14 hg14 hf14 hnn14
            try go_simp
            refine hK.out _ _ trivial (fun hHeld2 => ?_)
            clear hK K hHeld
            have hHeld := hHeld2
            clear hHeld2
            refine wpU_ready (rs := [12]) (by kernel_rfl) (by simp) ?_
            refine AllU.last rfl (fun K hK => ?_)
            go_simp
            try go_wp2_with fail
            refine hK.out _ _ ?_
            clear hK K
            refine wpAny_done (by kernel_rfl) ?_ _
            go_wp2_with fail
            go_ret
            have HL : Hid (((((ss.take N) ++ [x]) ++ (ss.drop N)) : List ByteArray).length = nn14) := hide (by have h1 := LT.out; have h2 := LD.out; have h30 := E12.out; have h31 := E13.out; have h32 := E14.out; simp only [List.length_append, List.length_cons, List.length_nil] at *; omega)
            exact ⟨⟨_, _, rfl, ⟨strCap_own (B := w.heap.size) (by rw [HL.out]; exact O14.out), fun e => by have := HL.out; rw [e] at this; simp at e⟩, HPUT.out⟩, B14.out⟩
end Go.Proofs.Ytddphbbmccfblaa
