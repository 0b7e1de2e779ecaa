/-
  The document's tag: the tag whose name begins at a place.
-/
import Derived.Test.YtjmgcdeinjamiaaDoorY5
import Derived.Test.YtjmgcdeinjamiaaDoorSm1
import Derived.Test.YtjmgcdeinjamiaaDoorM5
import Derived.Deep.CutRange
import Derived.BigQuiet
namespace Go.Proofs.YtjmgcdeinjamiaaDoor
open Go.RowKit
open Utf1

/-- What lies in memory while a tag is read. -/
def RT (w0 : World) (B : Nat) (NM : ByteArray) (acc : List (List UInt8 × List UInt8)) (av : Value) (cl : Bool) (wr : World) : Prop :=
  w0.heap.size < B ∧
  wr.heap[w0.heap.size]? = some (.cells #[.int .i64 0, .string ⟨#[]⟩, .slice none 0 0, .bool false, .string ⟨#[]⟩] 32 (0, 0)) ∧
  wr.heap[B]? = some (.cells #[.int .i64 2, .string NM, av, .bool cl, .string ⟨#[]⟩] 32 (0, 0)) ∧
  wr.ownsRow w0.heap.size 34 2 av acc.length (attrCells acc) ∧ Below w0.heap.size w0 wr
theorem RT.below {w0 : World} {B : Nat} {NM : ByteArray} {acc : List (List UInt8 × List UInt8)} {av : Value} {cl : Bool} {wr w1 : World} (h : RT w0 B NM acc av cl wr) (hb : Below wr.heap.size wr w1) : RT w0 B NM acc av cl w1 := by
  obtain ⟨h0, h1, h2, h3, h4⟩ := h
  exact ⟨h0, (hb.block _ (lt_of_block h1)).trans h1, (hb.block _ (lt_of_block h2)).trans h2, own_below h3 hb, h4.trans (hb.mono h4.size)⟩
theorem RT.close {w0 : World} {B : Nat} {NM : ByteArray} {acc : List (List UInt8 × List UInt8)} {av : Value} {cl : Bool} {wr : World} (h : RT w0 B NM acc av cl wr) (b : Bool) : RT w0 B NM acc av b (wr.setCell ⟨B, 3, none⟩ (.bool b)) := by
  obtain ⟨h0, h1, h2, h3, h4⟩ := h
  refine ⟨h0, (Below.heap_setCell _ _ _ _ (by simp; omega)).trans h1, tok_set h2 3 _, own_set h3 h2 (by decide) 3 _, h4.setCell (p := ⟨B, 3, none⟩) (Nat.le_of_lt h0) _⟩

/-- What tag answers: the attributes' reading of what is behind the name. -/
def TRet (s : ByteArray) (NM : ByteArray) (tg : Option (List (List UInt8 × List UInt8) × Bool × List UInt8)) (w : World) (e : Ending) (w' : World) : Prop := Below w.heap.size w w' ∧
  ((tg = none ∧ e = .returned (.tuple #[.agg #[.int .i64 0, .string ⟨#[]⟩, .slice none 0 0, .bool false, .string ⟨#[]⟩], .int .i64 (-1)])) ∨
   ∃ acc cl r av, tg = some (acc, cl, r) ∧ ∃ q : Nat, q ≤ s.size ∧ (bl s).drop q = r ∧ e = .returned (.tuple #[.agg #[.int .i64 2, .string NM, av, .bool cl, .string ⟨#[]⟩], .int .i64 (q : Int)]) ∧ w'.ownsRow w.heap.size 34 2 av acc.length (attrCells acc))

theorem results_cell2 {fn : Func} {p u : Tmp} {ty : TypeId} (h : fn.results = #[.cell p ty, .tmp u]) (tmps : Array Value) (P : Program) (w : World) :
    (results fn tmps).run P w =
      ((asAddr (tmps.getD p undef)).run P w).andThen fun a w₁ => ((loadVar ty a).run P w₁).andThen fun x w₂ => .ok (.tuple #[x, tmps.getD u undef]) w₂ := by
  simp only [results, h]
  simp [Sem.run_bind, Result.andThen]
theorem ret_rt {R : Ending → World → Prop} {a : Act} {w : World} (b : Nat) (v0 v1 v2 v3 v4 x : Value) (hd : a.defers = []) (h4 : a.tmps.getD 4 undef = .pointer (some ⟨b, 0, none⟩)) (h5 : a.tmps.getD 5 undef = x)
    (h : w.heap[b]? = some (.cells #[v0, v1, v2, v3, v4] 32 (0, 0))) (hR : R (.returned (.tuple #[.agg #[v0, v1, v2, v3, v4], x])) w) : bodyPost Tryd.prog Tryd.f28 R .ret a w := by
  refine bodyPost_ret (v := .tuple #[.agg #[v0, v1, v2, v3, v4], x]) ?_ hd hR
  rw [results_cell2 (p := 4) (u := 5) (ty := 32) rfl, h4, h5]
  have e : (asAddr (.pointer (some ⟨b, 0, none⟩))).run Tryd.prog w = .ok ⟨b, 0, none⟩ w := by rfl
  rw [e]
  simp only [Result.andThen]
  rw [load_tok w b v0 v1 v2 v3 v4 h]

/-- How far the gap has been gone through. -/
def GapSt (s : ByteArray) (l0 : List UInt8) (q : Nat) (cl : Bool) : Prop := ∃ g, l0 = g ++ (bl s).drop q ∧ (∀ c ∈ g, isGap c = true) ∧ cl = ([47].isSuffixOf g && decide (((bl s).drop q).head? = some 62))
theorem gap_end {l0 g r : List UInt8} (h : l0 = g ++ r) (hg : ∀ c ∈ g, isGap c = true) (hr : r = [] ∨ ∃ c t, r = c :: t ∧ isGap c = false) : l0.takeWhile isGap = g ∧ l0.dropWhile isGap = r := by
  subst h
  rcases hr with rfl | ⟨c, t, rfl, hc⟩
  · induction g with
    | nil => exact ⟨rfl, rfl⟩
    | cons a g ih =>
      have := ih (fun x hx => hg x (List.mem_cons_of_mem _ hx))
      have ha := hg a (List.mem_cons_self ..)
      rw [List.cons_append, List.takeWhile_cons, List.dropWhile_cons, if_pos ha, if_pos ha, this.1, this.2]
      exact ⟨rfl, rfl⟩
  · exact take_until hc t g hg
theorem GapSt.step {s : ByteArray} {l0 : List UInt8} {q : Nat} {cl : Bool} {c : UInt8} (h : GapSt s l0 q cl) (hc : (bl s).drop q = c :: (bl s).drop (q + 1)) (hg : isGap c = true) : cl = false ∧ GapSt s l0 (q + 1) ([47, 62].isPrefixOf ((bl s).drop q)) := by
  obtain ⟨g, h1, h2, h3⟩ := h
  refine ⟨?_, g ++ [c], ?_, ?_, ?_⟩
  · rw [h3, hc]
    have : c ≠ 62 := by
      rintro rfl
      cases hg
    simp [this]
  · rw [h1, hc]
    simp
  · intro x hx
    rcases List.mem_append.1 hx with hx | hx
    · exact h2 x hx
    · have : x = c := by simpa using hx
      rw [this]
      exact hg
  · rw [hc]
    have e : [47].isSuffixOf (g ++ [c]) = decide (c = 47) := by
      rw [Bool.eq_iff_iff]
      rw [List.isSuffixOf_iff_suffix, decide_eq_true_iff]
      constructor
      · rintro ⟨t, ht⟩
        have := congrArg List.getLast? ht
        simpa using this.symm
      · rintro rfl
        exact ⟨g, rfl⟩
    rw [e]
    cases (bl s).drop (q + 1) with
    | nil => simp [List.isPrefixOf]
    | cons d t =>
      by_cases h47 : c = 47
      · subst h47
        by_cases h62 : d = 62
        · subst h62
          simp [List.isPrefixOf]
        · simp [List.isPrefixOf, h62, Ne.symm h62]
      · simp [List.isPrefixOf, h47, Ne.symm h47]
theorem RT.append {w0 : World} {B : Nat} {NM X Y : ByteArray} {acc : List (List UInt8 × List UInt8)} {av v' : Value} {wr w5 : World} {o : Obj} (h : RT w0 B NM acc av false wr)
    (hown5 : w5.ownsRow w0.heap.size 34 2 v' (acc.length + 1) (attrCells acc ++ [.string X, .string Y])) (hgr : (wr.alloc o).grownBy w5 av.ownBlock) :
    w5.cell? ⟨B, 2, none⟩ = some av ∧ w5.frozen? ⟨B, 2, none⟩ = false ∧ RT w0 B NM (acc ++ [(bl X, bl Y)]) v' false (w5.setCell ⟨B, 2, none⟩ v') := by
  obtain ⟨h0, h1, h2, h3, h7⟩ := h
  have a1 : (wr.alloc o).heap[w0.heap.size]? = _ := (Below.heap_alloc _ _ _ (lt_of_block h1)).trans h1
  have a2 : (wr.alloc o).heap[B]? = _ := (Below.heap_alloc _ _ _ (lt_of_block h2)).trans h2
  have b1 := (hgr.block _ (lt_of_block a1) (fun e => own_apart (h3.alloc o) a1 (by decide) e.symm)).trans a1
  have b2 := (hgr.block _ (lt_of_block a2) (fun e => own_apart (h3.alloc o) a2 (by decide) e.symm)).trans a2
  have hb3 : Below w0.heap.size w0 (wr.alloc o) := h7.alloc h7.size o
  have hlt := (h3.alloc o).lt
  have hb5 : Below w0.heap.size w0 w5 := hb3.grown hgr hb3.size (fun j hj => (hlt j hj).1)
  refine ⟨tag_cell b2 2 _ rfl, tag_free b2 2, h0, ?_, ?_, ?_, ?_⟩
  · exact (Below.heap_setCell _ _ _ _ (by simp; omega)).trans b1
  · exact tok_set b2 2 v'
  · rw [attrCells_app, List.length_append]
    have e4 : attrCells [(bl X, bl Y)] = [.string X, .string Y] := by
      show [Value.string ⟨(bl X).toArray⟩, .string ⟨(bl Y).toArray⟩] = _
      rw [bl_eta, bl_eta]
    rw [e4]
    exact own_set hown5 b2 (by decide) 2 v'
  · exact hb5.setCell (p := ⟨B, 2, none⟩) (Nat.le_of_lt h0) _
theorem RT.setA {w0 : World} {B A : Nat} {NM : ByteArray} {acc : List (List UInt8 × List UInt8)} {av : Value} {cl : Bool} {wr : World} (h : RT w0 B NM acc av cl wr) (hA : B < A) (hne : av.ownBlock ≠ some A) (j : Nat) (u : Value) : RT w0 B NM acc av cl (wr.setCell ⟨A, j, none⟩ u) := by
  obtain ⟨h0, h1, h2, h3, h4⟩ := h
  exact ⟨h0, (Below.heap_setCell _ _ _ _ (by simp; omega)).trans h1, (Below.heap_setCell _ _ _ _ (by simp; omega)).trans h2, ownsRow_setCell_other h3 hne u, h4.setCell (p := ⟨A, j, none⟩) (by simp; omega) _⟩
theorem valOf_len {l v r : List UInt8} (h : valOf l = some (v, r)) : r.length ≤ l.length := by
  cases l with
  | nil =>
    cases h
    exact Nat.le_refl _
  | cons q y =>
    unfold valOf at h
    simp only at h
    split at h
    · split at h
      · cases h
      · rename_i z r' he
        cases h
        have h5 := drop_le (fun x => x != q) y
        rw [he] at h5
        simp only [List.length_cons] at h5 ⊢
        omega
    · cases h
      exact drop_le _ _
theorem eq_comm_dec (a b : List UInt8) : decide (a = b) = decide (b = a) := by
  by_cases h : a = b
  · rw [decide_eq_true h, decide_eq_true h.symm]
  · rw [decide_eq_false h, decide_eq_false (Ne.symm h)]
theorem RT.start {w0 w2 : World} {NM : ByteArray} {n : Nat} (h : Below ((w0.alloc (.cells #[.int .i64 0, .string ⟨#[]⟩, .slice none 0 0, .bool false, .string ⟨#[]⟩] 32)).drewN n).heap.size ((w0.alloc (.cells #[.int .i64 0, .string ⟨#[]⟩, .slice none 0 0, .bool false, .string ⟨#[]⟩] 32)).drewN n) w2) :
    RT w0 w2.heap.size NM [] (.slice none 0 0) false (w2.alloc (.cells #[.int .i64 2, .string NM, .slice none 0 0, .bool false, .string ⟨#[]⟩] 32)) := by
  have hsz := h.size
  have h1 : ((w0.alloc (.cells #[.int .i64 0, .string ⟨#[]⟩, .slice none 0 0, .bool false, .string ⟨#[]⟩] 32)).drewN n).heap.size = w0.heap.size + 1 := by
    show (w0.alloc _).heap.size = _
    simp
  rw [h1] at hsz
  have hb : Below w0.heap.size w0 w2 := by
    have ha : Below w0.heap.size w0 (w0.alloc (.cells #[.int .i64 0, .string ⟨#[]⟩, .slice none 0 0, .bool false, .string ⟨#[]⟩] 32)) := (Below.refl _ _).alloc (Nat.le_refl _) _
    have ha2 := bel2 ha (bel_drewN _ n)
    exact bel2 ha2 h
  refine ⟨by omega, ?_, ?_, World.ownsRow_nil _ _ _ _, hb.alloc hb.size _⟩
  · rw [Below.heap_alloc _ _ _ (by omega), h.block _ (by omega)]
    show (w0.heap.push _)[w0.heap.size]? = _
    exact Array.getElem?_push_size
  · show (w2.heap.push _)[w2.heap.size]? = _
    exact Array.getElem?_push_size

set_option maxRecDepth 100000 in
set_option maxHeartbeats 16000000 in
theorem rtag_any (s : ByteArray) (p : Nat) (hp : p ≤ s.size) (hs : s.size ≤ 10000) (w : World) :
    Calls Tryd.prog 28 #[.string s, .int .i64 (p : Int)] w fun e w' => TRet s ⟨(lower (((bl s).drop p).takeWhile (fun x => !isNm x))).toArray⟩ (attrsOf [] (((bl s).drop p).dropWhile (fun x => !isNm x))) w e w' := by
  have hu := fun w => until_any s p ⟨#[47, 62]⟩ hp (by omega) (by decide) w
  rw [show bl ⟨#[47, 62]⟩ = [47, 62] from rfl, goes_nm] at hu
  have hle := tw_le (fun x => !isNm x) ((bl s).drop p)
  rw [List.length_drop, bl_len] at hle
  have hx : bl (s.extract p (p + (((bl s).drop p).takeWhile (fun x => !isNm x)).length)) = ((bl s).drop p).takeWhile (fun x => !isNm x) := by
    rw [ext_mid, Nat.add_sub_cancel_left]
    exact take_len _
  have hdr : (bl s).drop (p + (((bl s).drop p).takeWhile (fun x => !isNm x)).length) = ((bl s).drop p).dropWhile (fun x => !isNm x) := by
    rw [← drop_drop', drop_len]
  rw [← hx, ← hdr]
  obtain ⟨m, hm⟩ : ∃ m, m = (((bl s).drop p).takeWhile (fun x => !isNm x)).length := ⟨_, rfl⟩
  rw [← hm] at hu hle hx hdr ⊢
  have hxs : (s.extract p (p + m)).size ≤ 10000 := by
    rw [← bl_len, hx, ← hm]
    omega
  have hlw := fun w => Doc.rlower_any (s.extract p (p + m)) w (by omega)
  obtain ⟨NM, hNM⟩ : ∃ L : ByteArray, L = ⟨(lower (bl (s.extract p (p + m)))).toArray⟩ := ⟨_, rfl⟩
  rw [← hNM] at hlw ⊢
  obtain ⟨tg, htg⟩ : ∃ tg, tg = attrsOf [] ((bl s).drop (p + m)) := ⟨_, rfl⟩
  rw [← htg]
  have HTG := hide htg
  have HU := hide hu
  have HLW := hide hlw
  clear htg hu hlw hNM hx hdr hm hxs
  go_enter Tryd.func28, Tryd.ntmps28
  go_wp2_with fail
  refine (HU.out _).mono ?_
  rintro e w1 ⟨rfl, n1, rfl⟩
  clear HU
  go_wp2_with fail
  refine (HLW.out _).mono ?_
  rintro e w2 ⟨rfl, hb2⟩
  clear HLW
  have HRT := hide (RT.start (NM := NM) hb2)
  clear hb2
  go_wp2_with fail
  go_loopg [1] (s.size - (p + m)) (fun g v wr => ∃ (q : Nat) (acc : List (List UInt8 × List UInt8)) (av : Value), q + g = s.size ∧ v = .int .i64 (q : Int) ∧ acc.length ≤ q ∧ Hid (RT w w2.heap.size NM acc av false wr) ∧ Hid (tg = attrsOf acc ((bl s).drop q)))
  case atStart => exact ⟨p + m, [], .slice none 0 0, by omega, by first | rfl | simp, Nat.zero_le _, HRT, HTG⟩
  case round =>
    obtain ⟨q0, acc, av, hqg, rfl, hacc, HRT1, HTG1⟩ := hrel
    clear HRT HTG
    go_wp2_with fail
    go_loopg [1] (s.size - q0) (fun g v wr => ∃ (q : Nat) (cl : Bool), q + g = s.size ∧ q0 ≤ q ∧ v = .int .i64 (q : Int) ∧ Hid (RT w w2.heap.size NM acc av cl wr) ∧ Hid (GapSt s ((bl s).drop q0) q cl))
    case atStart => exact ⟨q0, false, by omega, Nat.le_refl _, rfl, HRT1, hide ⟨[], rfl, by simp, by simp⟩⟩
    case round =>
      obtain ⟨q, cl, hqg2, hq0, rfl, HRT2, HGS⟩ := hrel
      clear HRT1
      by_cases hlt : q < s.size
      case neg =>
        have hd : decide ((q : Int) < (s.size : Int)) = false := decide_eq_false (by omega)
        have hd2 : ((q : Int) == (s.size : Int)) = true := beq_iff_eq.2 (by omega)
        have HNONE : Hid (tg = none) := hide (by
          obtain ⟨g, h1, h2, h3⟩ := HGS.out
          have := gap_end h1 h2 (.inl (drop_end hlt))
          rw [HTG1.out, attrsOf_nil _ _ (this.2.trans (drop_end hlt))])
        obtain ⟨h0, hR, hT, hown, hbw⟩ := HRT2.out
        have c0 := tag_cell hR 0 _ rfl
        have c1 := tag_cell hR 1 _ rfl
        have c2 := tag_cell hR 2 _ rfl
        have c3 := tag_cell hR 3 _ rfl
        have c4 := tag_cell hR 4 _ rfl
        have f0 := tag_free hR 0
        have f1 := tag_free hR 1
        have f2 := tag_free hR 2
        have f3 := tag_free hR 3
        have f4 := tag_free hR 4
        have HR := hide hR
        have HBW := hide hbw
        clear hR hT hown hbw HGS HTG1 HRT2 h0
        go_wp2_with fail
        refine ret_rt w.heap.size _ _ _ _ _ _ rfl rfl rfl (tok_five HR.out _ _ _ _ _) ?_
        exact ⟨below_five HBW.out (Nat.le_refl _) _ _ _ _ _, .inl ⟨HNONE.out, rfl⟩⟩
      have hd : decide ((q : Int) < (s.size : Int)) = true := decide_eq_true (by omega)
      obtain ⟨c, hc, hge⟩ := dropc hlt
      have i0 := fun w => idxK hge w
      have hbl := fun w => blank_any c w
      have m47 : ((c.toNat : Int) == 47) = decide (c = 47) := beqK c 47 (by decide)
      have m62 : ((c.toNat : Int) == 62) = decide (c = 62) := beqK c 62 (by decide)
      obtain ⟨z, hz⟩ : ∃ z : Int, z = (c.toNat : Int) := ⟨_, rfl⟩
      rw [← hz] at i0 hbl m47 m62
      clear hz hge
      have HBG := hide (fun w => rbegins_any s q ⟨#[47, 62]⟩ (by omega) (by omega) (by decide) w)
      rw [show bl ⟨#[47, 62]⟩ = [47, 62] from rfl] at HBG
      cases hbc : isBl c with
      | true =>
        rw [hbc] at hbl
        have hgap : isGap c = true := by
          unfold isGap
          rw [hbc]
          rfl
        have HBL := hide hbl
        clear hbl hbc m47 m62
        cases hpre : [47, 62].isPrefixOf ((bl s).drop q) with
        | true =>
          rw [hpre] at HBG
          have hst := HGS.out.step hc hgap
          rw [hpre] at hst
          obtain ⟨rfl, hst⟩ := hst
          have HG2 := hide hst
          have HRT3 := hide (HRT2.out.close true)
          obtain ⟨h0, hR, hT, hown, hbw⟩ := HRT2.out
          have c3 := tag_cell hT 3 _ rfl
          have f3 := tag_free hT 3
          clear hR hT hown hbw hst hpre HGS HRT2 hc hgap
          go_wp2_with fail
          refine (HBL.out _).mono ?_
          rintro e w3 ⟨rfl, rfl⟩
          go_wp2_with fail
          refine (HBG.out _).mono ?_
          rintro e w4 ⟨rfl, rfl⟩
          go_wp2_with fail
          go_roundg (gk - 1)
          case measure => omega
          case rel => exact ⟨q + 1, true, by omega, by omega, by first | rfl | (rw [wrap64_in _ ⟨by omega, by omega⟩]; rfl) | simp, HRT3, HG2⟩
        | false =>
          rw [hpre] at HBG
          have hst := HGS.out.step hc hgap
          rw [hpre] at hst
          obtain ⟨rfl, hst⟩ := hst
          have HG2 := hide hst
          clear hst hpre HGS hc hgap
          go_wp2_with fail
          refine (HBL.out _).mono ?_
          rintro e w3 ⟨rfl, rfl⟩
          go_wp2_with fail
          refine (HBG.out _).mono ?_
          rintro e w4 ⟨rfl, rfl⟩
          go_wp2_with fail
          go_roundg (gk - 1)
          case measure => omega
          case rel => exact ⟨q + 1, false, by omega, by omega, by first | rfl | (rw [wrap64_in _ ⟨by omega, by omega⟩]; rfl) | simp, HRT2, HG2⟩
      | false =>
      rw [hbc] at hbl
      have HBL := hide hbl
      clear hbl
      by_cases h47 : c = 47
      · rw [decide_eq_true h47] at m47
        have hgap : isGap c = true := by
          unfold isGap
          rw [h47]
          rfl
        clear h47 hbc m62
        cases hpre : [47, 62].isPrefixOf ((bl s).drop q) with
        | true =>
          rw [hpre] at HBG
          have hst := HGS.out.step hc hgap
          rw [hpre] at hst
          obtain ⟨rfl, hst⟩ := hst
          have HG2 := hide hst
          have HRT3 := hide (HRT2.out.close true)
          obtain ⟨h0, hR, hT, hown, hbw⟩ := HRT2.out
          have c3 := tag_cell hT 3 _ rfl
          have f3 := tag_free hT 3
          clear hR hT hown hbw hst hpre HGS HRT2 hc hgap
          go_wp2_with fail
          refine (HBL.out _).mono ?_
          rintro e w3 ⟨rfl, rfl⟩
          go_wp2_with fail
          refine (HBG.out _).mono ?_
          rintro e w4 ⟨rfl, rfl⟩
          go_wp2_with fail
          go_roundg (gk - 1)
          case measure => omega
          case rel => exact ⟨q + 1, true, by omega, by omega, by first | rfl | (rw [wrap64_in _ ⟨by omega, by omega⟩]; rfl) | simp, HRT3, HG2⟩
        | false =>
          rw [hpre] at HBG
          have hst := HGS.out.step hc hgap
          rw [hpre] at hst
          obtain ⟨rfl, hst⟩ := hst
          have HG2 := hide hst
          clear hst hpre HGS hc hgap
          go_wp2_with fail
          refine (HBL.out _).mono ?_
          rintro e w3 ⟨rfl, rfl⟩
          go_wp2_with fail
          refine (HBG.out _).mono ?_
          rintro e w4 ⟨rfl, rfl⟩
          go_wp2_with fail
          go_roundg (gk - 1)
          case measure => omega
          case rel => exact ⟨q + 1, false, by omega, by omega, by first | rfl | (rw [wrap64_in _ ⟨by omega, by omega⟩]; rfl) | simp, HRT2, HG2⟩
      rw [decide_eq_false h47] at m47
      have hngap : isGap c = false := by
        unfold isGap
        rw [hbc, beq_eq_false_iff_ne.2 h47]
        rfl
      have hd2 : ((q : Int) == (s.size : Int)) = false := beq_eq_false_iff_ne.2 (by omega)
      have hgend : ((bl s).drop q0).dropWhile isGap = c :: (bl s).drop (q + 1) ∧ cl = ([47].isSuffixOf (((bl s).drop q0).takeWhile isGap) && decide (c = 62)) := by
        obtain ⟨g, h1, h2, h3⟩ := HGS.out
        have := gap_end h1 h2 (.inr ⟨c, _, hc, hngap⟩)
        refine ⟨this.2.trans hc, ?_⟩
        rw [this.1, h3, hc]
        simp
      clear HGS hbc h47 hngap HBG
      by_cases h62 : c = 62
      · subst h62
        have m62 : (z == 62) = true := m62
        have HEND := hide (attrsOf_end acc _ _ hgend.1)
        have hcl : cl = [47].isSuffixOf (((bl s).drop q0).takeWhile isGap) := by rw [hgend.2]; simp
        rw [← hcl, ← HTG1.out] at HEND
        obtain ⟨h0, hR, hT, hown, hbw⟩ := HRT2.out
        obtain ⟨ap, am, ac, rfl⟩ := own_slice hown
        have c0 := tag_cell hR 0 _ rfl
        have c1 := tag_cell hR 1 _ rfl
        have c2 := tag_cell hR 2 _ rfl
        have c3 := tag_cell hR 3 _ rfl
        have c4 := tag_cell hR 4 _ rfl
        have f0 := tag_free hR 0
        have f1 := tag_free hR 1
        have f2 := tag_free hR 2
        have f3 := tag_free hR 3
        have f4 := tag_free hR 4
        have t0 : wr.cell? ⟨w2.heap.size, 0, none⟩ = some (.int .i64 2) := tag_cell hT 0 _ rfl
        have t1 : wr.cell? ⟨w2.heap.size, 1, none⟩ = some (.string NM) := tag_cell hT 1 _ rfl
        have t2 : wr.cell? ⟨w2.heap.size, 2, none⟩ = some (.slice ap am ac) := tag_cell hT 2 _ rfl
        have t3 : wr.cell? ⟨w2.heap.size, 3, none⟩ = some (.bool cl) := tag_cell hT 3 _ rfl
        have t4 : wr.cell? ⟨w2.heap.size, 4, none⟩ = some (.string ⟨#[]⟩) := tag_cell hT 4 _ rfl
        have HR := hide hR
        have HBW := hide hbw
        have HOW := hide hown
        clear hR hT hown hbw HTG1 HRT2 hgend hcl hc
        go_wp2_with fail
        refine (HBL.out _).mono ?_
        rintro e w3 ⟨rfl, rfl⟩
        go_wp2_with fail
        refine ret_rt w.heap.size _ _ _ _ _ _ rfl rfl rfl (tok_five HR.out _ _ _ _ _) ?_
        exact ⟨below_five HBW.out (Nat.le_refl _) _ _ _ _ _, .inr ⟨acc, cl, _, _, HEND.out, q + 1, by omega, rfl, rfl, own_five HOW.out HR.out (by decide) _ _ _ _ _⟩⟩
      rw [decide_eq_false h62] at m62
      have hcl : cl = false := by rw [hgend.2, decide_eq_false h62]; simp
      subst hcl
      have hgd := hgend.1
      clear hgend
      -- an attribute
      obtain ⟨t, ht⟩ : ∃ t, t = (bl s).drop (q + 1) := ⟨_, rfl⟩
      have htl : t.length = s.size - (q + 1) := by rw [ht, List.length_drop, bl_len]
      obtain ⟨m2, hm2⟩ : ∃ m, m = (t.takeWhile (fun x => !isAt x)).length := ⟨_, rfl⟩
      have hm2l : m2 ≤ s.size - (q + 1) := by
        rw [hm2, ← htl]
        exact tw_le _ _
      have hu2 : ∀ w, q + 1 < s.size → Calls Tryd.prog 50 #[.string s, .int .i64 ((q : Int) + 1), .string ⟨#[47, 62, 61]⟩] w fun e w' => e = .returned (.int .i64 ((q + 1 + m2 : Nat) : Int)) ∧ ∃ n, w' = w.drewN n := by
        intro w hlt2
        have := until_any s (q + 1) ⟨#[47, 62, 61]⟩ (by omega) (by omega) (by decide) w
        rw [show bl ⟨#[47, 62, 61]⟩ = [47, 62, 61] from rfl, goes_at, ← ht, ← hm2] at this
        exact this
      have hm20 : ¬ q + 1 < s.size → m2 = 0 := by omega
      have HU2 := hide hu2
      have HAT := hide (And.intro ht (And.intro hm2 (And.intro hgd hc)))
      clear hu2 hgd hc ht hm2
      go_wp2_with fail
      refine (HBL.out _).mono ?_
      rintro e w3 ⟨rfl, rfl⟩
      clear HBL
      go_upto_if 62 with fail
      go_cut [6] from 23 to 127 (fun c wx => c = .int .i64 ((q + 1 + m2 : Nat) : Int) ∧ Hid (∃ n, wx = w3.drewN n))
      case first =>
        by_cases hlt2 : q + 1 < s.size
        · have hd3 : decide ((q : Int) + 1 < (s.size : Int)) = true := decide_eq_true (by omega)
          have HU3 := hide (fun w => HU2.out w hlt2)
          clear HU2
          go_wp2_with fail
          refine (HU3.out _).mono ?_
          rintro e w4 ⟨rfl, n4, rfl⟩
          go_wp2_with fail
          go_meet
          exact ⟨rfl, hide ⟨n4, rfl⟩⟩
        · have hd3 : decide ((q : Int) + 1 < (s.size : Int)) = false := decide_eq_false (by omega)
          have h0 := hm20 hlt2
          clear HU2
          go_wp2_with fail
          go_meet
          exact ⟨by rw [h0]; rfl, hide ⟨0, rfl⟩⟩
      case rest =>
      obtain ⟨rfl, HWC⟩ := hcut
      have HRT3 : Hid (RT w w2.heap.size NM acc av false wc) := hide (by
        obtain ⟨n, hn⟩ := HWC.out
        rw [hn]
        exact HRT2.out.below (bel_drewN _ n))
      clear HWC HRT2 HU2 hm20
      have hx1 : bl (s.extract q (q + 1 + m2)) = c :: t.takeWhile (fun x => !isAt x) := by
        rw [ext_mid, show q + 1 + m2 - q = m2 + 1 by omega]
        show ((bl s).drop q).take (m2 + 1) = _
        rw [HAT.out.2.2.2, List.take_succ_cons, ← HAT.out.1, HAT.out.2.1, take_len]
      have hx1s : (s.extract q (q + 1 + m2)).size ≤ 10000 := by
        rw [← bl_len, hx1, List.length_cons, ← HAT.out.2.1]
        omega
      have hlw := fun w => Doc.rlower_any (s.extract q (q + 1 + m2)) w (by omega)
      obtain ⟨L, hL⟩ : ∃ L : ByteArray, L = ⟨(lower (bl (s.extract q (q + 1 + m2)))).toArray⟩ := ⟨_, rfl⟩
      rw [← hL] at hlw
      have HLB : Hid (bl L = lower (c :: t.takeWhile (fun x => !isAt x))) := hide (by rw [hL, hx1])
      have HLW := hide hlw
      clear hlw hL hx1 hx1s
      have hdr2 : (bl s).drop (q + 1 + m2) = t.dropWhile (fun x => !isAt x) := by
        rw [← drop_drop', ← HAT.out.1, HAT.out.2.1, drop_len]
      have hsk := fun w => skip_any s (q + 1 + m2) (by omega) (by omega) w
      rw [hdr2] at hsk
      obtain ⟨m3, hm3⟩ : ∃ m, m = ((t.dropWhile (fun x => !isAt x)).takeWhile isBl).length := ⟨_, rfl⟩
      have hm3l : m3 ≤ s.size - (q + 1 + m2) := by
        have h1 := tw_le isBl ((bl s).drop (q + 1 + m2))
        rw [hdr2, ← hm3, ← hdr2, List.length_drop, bl_len] at h1
        exact h1
      rw [← hm3] at hsk
      have HD3 : Hid ((bl s).drop (q + 1 + m2 + m3) = (t.dropWhile (fun x => !isAt x)).dropWhile isBl) := hide (by
        rw [← drop_drop', hdr2, hm3, drop_len])
      obtain ⟨q3, hq3⟩ : ∃ q3, q3 = q + 1 + m2 + m3 := ⟨_, rfl⟩
      have hq3l : q < q3 ∧ q3 ≤ s.size := by omega
      rw [← hq3] at hsk HD3
      have hsk : ∀ w, Calls Tryd.prog 53 #[.string s, .int .i64 ((q : Int) + 1 + (m2 : Int))] w fun e w' => e = .returned (.int .i64 (q3 : Int)) ∧ w' = w := hsk
      have HSK := hide hsk
      clear hsk hdr2 hm3 hm3l hq3
      obtain ⟨hq3a, hq3b⟩ := hq3l
      go_wp2_with fail
      refine (HLW.out _).mono ?_
      rintro e w5 ⟨rfl, hb5⟩
      have HRT5 := hide (HRT3.out.below hb5)
      have HNE : Hid (w2.heap.size < w5.heap.size ∧ av.ownBlock ≠ some w5.heap.size) := hide ⟨lt_of_block HRT5.out.2.2.1, fun e => by have := (HRT5.out.2.2.2.1.lt _ e).2; omega⟩
      clear hb5 HRT3 HLW
      have HRT6 : Hid (RT w w2.heap.size NM acc av false (w5.alloc (.cells #[.string L, .string ⟨#[]⟩] 34)) ∧ (w5.alloc (.cells #[.string L, .string ⟨#[]⟩] 34)).heap[w5.heap.size]? = some (.cells #[.string L, .string ⟨#[]⟩] 34 (0, 0))) := hide ⟨HRT5.out.below ((Below.refl _ _).alloc (Nat.le_refl _) _), Array.getElem?_push_size⟩
      clear HRT5
      go_wp2_with fail
      refine (HSK.out _).mono ?_
      rintro e w6 ⟨rfl, rfl⟩
      clear HSK
      obtain ⟨wa, hwa⟩ : ∃ wa, wa = w5.alloc (.cells #[.string L, .string ⟨#[]⟩] 34) := ⟨_, rfl⟩
      rw [← hwa] at HRT6
      go_upto_region 17 with fail
      rw [← hwa]
      clear hwa
      obtain ⟨b, hb⟩ : ∃ b : Bool, b = decide (((bl s).drop q3).head? = some 61) := ⟨_, rfl⟩
      have HBB := hide hb
      clear hb
      go_cut [84] from 23 to 127 (fun c wx => c = .bool b ∧ wx = wa)
      case first =>
        by_cases hlt3 : q3 < s.size
        · have hd4 : decide ((q3 : Int) < (s.size : Int)) = true := decide_eq_true (by omega)
          obtain ⟨c3, hc3, hge3⟩ := dropc hlt3
          have i3 := fun w => idxK hge3 w
          have m61 : ((c3.toNat : Int) == 61) = decide (c3 = 61) := beqK c3 61 (by decide)
          have hbv : decide (c3 = 61) = b := by
            rw [HBB.out, hc3]
            simp
          obtain ⟨z3, hz3⟩ : ∃ z : Int, z = (c3.toNat : Int) := ⟨_, rfl⟩
          rw [← hz3] at i3 m61
          rw [hbv] at m61
          clear hz3 hge3 hc3 hbv
          go_wp2_with fail
          go_meet
          exact ⟨rfl, rfl⟩
        · have hd4 : decide ((q3 : Int) < (s.size : Int)) = false := decide_eq_false (by omega)
          have hbv : b = false := by
            rw [HBB.out, drop_end hlt3]
            rfl
          go_wp2_with fail
          go_meet
          exact ⟨by rw [hbv], rfl⟩
      case rest =>
      obtain ⟨rfl, rfl⟩ := hcut
      go_upto_if 84 with fail
      go_cut [1, 9, 10] from 23 to 127 (fun v x9 x10 wx => ∃ (q2 : Nat) (V : ByteArray), v = .int .i64 (q2 : Int) ∧ q < q2 ∧ q2 ≤ s.size ∧ Hid (RT w w2.heap.size NM acc av false wx) ∧ Hid (wx.heap[w5.heap.size]? = some (.cells #[.string L, .string V] 34 (0, 0))) ∧ Hid (tg = attrsOf (addAt acc (bl L) (bl V)) ((bl s).drop q2)))
      case first =>
        cases b with
        | false =>
          have HTG2 : Hid (tg = attrsOf (addAt acc (bl L) (bl ⟨#[]⟩)) ((bl s).drop q3)) := hide (by
            have hno : ∀ u, (t.dropWhile (fun x => !isAt x)).dropWhile isBl ≠ 61 :: u := by
              intro u hu
              have := HBB.out
              rw [HD3.out, hu] at this
              simp at this
            have h1 := oneAt_no c t hno
            rw [HTG1.out, attrsOf_one acc _ _ c _ _ _ (by rw [HAT.out.1]; exact HAT.out.2.2.1) h62 h1, HLB.out, HD3.out]
            rfl)
          clear HTG1
          go_wp2_with fail
          go_meet
          exact ⟨q3, ⟨#[]⟩, rfl, by omega, by omega, hide HRT6.out.1, hide HRT6.out.2, HTG2⟩
        | true =>
          have hu : ∃ u, (t.dropWhile (fun x => !isAt x)).dropWhile isBl = 61 :: u := by
            have := HBB.out
            rw [HD3.out] at this
            cases hl : (t.dropWhile (fun x => !isAt x)).dropWhile isBl with
            | nil => rw [hl] at this; simp at this
            | cons x u =>
              rw [hl] at this
              have : x = 61 := by simpa using this.symm
              exact ⟨u, by rw [this]⟩
          obtain ⟨u, hu⟩ := hu
          have hlt3 : q3 < s.size := by
            have h1 := HD3.out
            rw [hu] at h1
            have := congrArg List.length h1
            rw [List.length_drop, bl_len, List.length_cons] at this
            omega
          have hdu : (bl s).drop (q3 + 1) = u := by
            have h1 := HD3.out
            rw [hu] at h1
            rw [← List.drop_drop, h1]
            rfl
          have hsk := fun w => skip_any s (q3 + 1) (by omega) (by omega) w
          rw [hdu] at hsk
          obtain ⟨m4, hm4⟩ : ∃ m, m = (u.takeWhile isBl).length := ⟨_, rfl⟩
          have hm4l : m4 ≤ s.size - (q3 + 1) := by
            rw [hm4]
            have h1 := tw_le isBl ((bl s).drop (q3 + 1))
            rw [hdu, ← hdu, List.length_drop, bl_len] at h1
            rw [← hdu]
            exact h1
          rw [← hm4] at hsk
          have hd5 : (bl s).drop (q3 + 1 + m4) = u.dropWhile isBl := by
            rw [← drop_drop', hdu, hm4, drop_len]
          have hva := fun w => value_any s (q3 + 1 + m4) (by omega) (by omega) w
          rw [hd5] at hva
          have h1 := oneAt_val c t u hu
          have HONE := hide h1
          have HLU : Hid ((u.dropWhile isBl).length = s.size - (q3 + 1 + m4)) := hide (by rw [← hd5, List.length_drop, bl_len])
          have hsk : ∀ w, Calls Tryd.prog 53 #[.string s, .int .i64 ((q3 : Int) + 1)] w fun e w' => e = .returned (.int .i64 ((q3 : Int) + 1 + (m4 : Int))) ∧ w' = w := hsk
          have hva : ∀ w, Calls Tryd.prog 54 #[.string s, .int .i64 ((q3 : Int) + 1 + (m4 : Int))] w fun e w' => VRet s (u.dropWhile isBl) w e w' := hva
          have HSK := hide hsk
          have HVA := hide hva
          clear hsk hva h1 hu hdu hm4 hd5
          go_wp2_with fail
          refine (HSK.out _).mono ?_
          rintro e w7 ⟨rfl, rfl⟩
          go_wp2_with fail
          refine (HVA.out _).mono ?_
          rintro e w8 ⟨⟨n8, rfl⟩, ⟨hno, rfl⟩ | ⟨V0, r, q2, hsome, hVs, rfl, hq2, hdq2⟩⟩
          · have HNONE : Hid (tg = none) := hide (by
              have := HONE.out
              rw [hno] at this
              rw [HTG1.out, attrsOf_none acc _ _ c (by rw [HAT.out.1]; exact HAT.out.2.2.1) h62 this])
            obtain ⟨⟨h0, hR, hT, hown, hbw⟩, hA⟩ := HRT6.out
            have c0 := tag_cell hR 0 _ rfl
            have c1 := tag_cell hR 1 _ rfl
            have c2 := tag_cell hR 2 _ rfl
            have c3 := tag_cell hR 3 _ rfl
            have c4 := tag_cell hR 4 _ rfl
            have f0 := tag_free hR 0
            have f1 := tag_free hR 1
            have f2 := tag_free hR 2
            have f3 := tag_free hR 3
            have f4 := tag_free hR 4
            have HR : Hid ((w7.drewN n8).heap[w.heap.size]? = some (.cells #[.int .i64 0, .string ⟨#[]⟩, .slice none 0 0, .bool false, .string ⟨#[]⟩] 32 (0, 0))) := hide hR
            have HBW := hide (bel2 hbw (bel_drewN w7 n8))
            clear hR hT hown hbw HRT6 hA hno HTG1 HONE h0
            go_wp2_with fail
            refine ret_rt w.heap.size _ _ _ _ _ _ rfl rfl rfl (tok_five HR.out _ _ _ _ _) ?_
            exact ⟨below_five HBW.out (Nat.le_refl _) _ _ _ _ _, .inl ⟨HNONE.out, rfl⟩⟩
          · have hrv := fun w => Doc.refResolve_any V0 (by omega) w
            obtain ⟨V, hV⟩ : ∃ V : ByteArray, V = ⟨(res (bl V0)).toArray⟩ := ⟨_, rfl⟩
            rw [← hV] at hrv
            have HVB : Hid (bl V = res (bl V0)) := hide (by rw [hV])
            have HTG2 : Hid (tg = attrsOf (addAt acc (bl L) (bl V)) ((bl s).drop q2)) := hide (by
              have h1 := HONE.out
              rw [hsome] at h1
              rw [HTG1.out, attrsOf_one acc _ _ c _ _ _ (by rw [HAT.out.1]; exact HAT.out.2.2.1) h62 h1, HLB.out, HVB.out, hdq2])
            have hq2g : q < q2 := by
              have h1 := valOf_len hsome
              have h2 := congrArg List.length hdq2
              rw [HLU.out, ← h2, List.length_drop, bl_len] at h1
              omega
            have HRS := hide hrv
            have HRT8 := hide (HRT6.out.1.below (bel_drewN w7 n8))
            have HA8 : Hid ((w7.drewN n8).heap[w5.heap.size]? = some (.cells #[.string L, .string ⟨#[]⟩] 34 (0, 0))) := hide HRT6.out.2
            clear hrv hV hsome hdq2 HONE HTG1 HRT6
            go_wp2_with fail
            refine (HRS.out _).mono ?_
            rintro e w9 ⟨rfl, hb9⟩
            have HRT9 := hide (HRT8.out.below hb9)
            have hA9 := (hb9.block _ (lt_of_block HA8.out)).trans HA8.out
            have a1 := tag_cell hA9 1 _ rfl
            have g1 := tag_free hA9 1
            have HA9 := hide (tok_set hA9 1 (.string V))
            have HRT10 := hide (HRT9.out.setA (A := w5.heap.size) HNE.out.1 HNE.out.2 1 (.string V))
            clear hb9 HRT8 HA8 hA9 HRS HRT9
            go_wp2_with fail
            go_meet
            exact ⟨q2, V, rfl, hq2g, hq2, HRT10, hide HA9.out, HTG2⟩
      case rest =>
      obtain ⟨q2, V, rfl, hq2a, hq2b, HRTc, HAc, HTGc⟩ := hcut
      clear HRT6 HTG1 HD3 HBB HLB HAT
      obtain ⟨ap, am, ac, rfl⟩ := own_slice HRTc.out.2.2.2.1
      have ham : am = acc.length := by
        obtain ⟨_, _, e⟩ := own_len HRTc.out.2.2.2.1
        injection e
      subst ham
      have hmax := own_most HRTc.out.2.2.2.1
      have t2 : wc.cell? ⟨w2.heap.size, 2, none⟩ = some (.slice ap acc.length ac) := tag_cell HRTc.out.2.2.1 2 _ rfl
      have a0 : wc.cell? ⟨w5.heap.size, 0, none⟩ = some (.string L) := tag_cell HAc.out 0 _ rfl
      have a1 : wc.cell? ⟨w5.heap.size, 1, none⟩ = some (.string V) := tag_cell HAc.out 1 _ rfl
      have HX : Hid (∀ i, i < acc.length → ∃ ga, ap = some ⟨ga, 0, none⟩ ∧ ∃ X : ByteArray, wc.cell? ⟨ga, i * 2, none⟩ = some (.string X) ∧ acc[i]? = some (bl X, (acc[i]?.getD ([], [])).2)) := hide (by
        intro i hi
        obtain ⟨ga, cc, e, k⟩ := own_at HRTc.out.2.2.2.1 (by omega)
        injection e with e1 e2 e3
        have h := attr_two acc i _ (List.getElem?_eq_getElem hi)
        refine ⟨ga, e1, _, (k _ (by omega)).trans h.1, ?_⟩
        rw [List.getElem?_eq_getElem hi]
        rfl)
      have HCONT : Hid (∀ n, RT w w2.heap.size NM acc (.slice ap acc.length ac) false (wc.drewN n)) := hide (fun n => HRTc.out.below (bel_drewN wc n))
      have HWA := hide (And.intro HRTc.out HAc.out)
      clear HRTc HAc
      go_wp2_with fail
      go_loopg [11, 12] acc.length (fun g vb vi wx => ∃ i : Nat, i + g = acc.length ∧ vi = .int .i64 (i : Int) ∧ ∃ b : Bool, vb = .bool b ∧ Hid (b = decide (bl L ∈ (acc.take i).map Prod.fst)) ∧ Hid (∃ n, wx = wc.drewN n))
      case atStart => exact ⟨0, by omega, rfl, false, rfl, hide (by simp), hide ⟨0, rfl⟩⟩
      case round =>
        obtain ⟨i, hig, rfl, b, rfl, HBI, HWI⟩ := hrel
        have t2r : wr.cell? ⟨w2.heap.size, 2, none⟩ = some (.slice ap acc.length ac) := by
          obtain ⟨n, hn⟩ := HWI.out
          rw [hn]
          exact t2
        have a0r : wr.cell? ⟨w5.heap.size, 0, none⟩ = some (.string L) := by
          obtain ⟨n, hn⟩ := HWI.out
          rw [hn]
          exact a0
        have a1r : wr.cell? ⟨w5.heap.size, 1, none⟩ = some (.string V) := by
          obtain ⟨n, hn⟩ := HWI.out
          rw [hn]
          exact a1
        by_cases hil : i < acc.length
        · obtain ⟨ga, rfl, X, cX, hX⟩ := HX.out i hil
          have cXr : wr.cell? ⟨ga, i * 2, none⟩ = some (.string X) := by
            obtain ⟨n, hn⟩ := HWI.out
            rw [hn]
            exact cX
          have hstep : decide (bl L ∈ (acc.take (i + 1)).map Prod.fst) = (b || decide (bl X = bl L)) := by
            rw [List.take_add_one, hX, HBI.out]
            simp only [Option.toList_some, List.map_append, List.map_cons, List.map_nil, List.mem_append, List.mem_singleton, Bool.decide_or]
            rw [eq_comm_dec]
          have y0 : (X.toList == L.toList) = decide (bl X = bl L) := by
            rw [ByteArray.toList_eq, ByteArray.toList_eq]
            by_cases h : bl X = bl L
            · rw [decide_eq_true h]
              exact beq_iff_eq.2 h
            · rw [decide_eq_false h]
              exact beq_eq_false_iff_ne.2 h
          cases b with
          | true =>
            have HB2 : Hid (true = decide (bl L ∈ (acc.take (i + 1)).map Prod.fst)) := hide (by rw [hstep]; rfl)
            clear hstep y0 cX hX HBI t2 a0 a1
            go_wp2_with fail
            go_quiet (fail)
            go_wp2_with fail
            go_roundg (gk - 1)
            case measure => omega
            case rel =>
              refine ⟨i + 1, by omega, by first | rfl | (rw [wrap64_in _ ⟨by omega, by omega⟩]; rfl) | simp, true, rfl, HB2, hide ?_⟩
              obtain ⟨n, hn⟩ := HWI.out
              rw [hn]
              exact ⟨_, World.drewN_drewN ..⟩
          | false =>
            have HB2 : Hid (decide (bl X = bl L) = decide (bl L ∈ (acc.take (i + 1)).map Prod.fst)) := hide (by rw [hstep]; rfl)
            generalize decide (bl X = bl L) = be at y0 HB2
            clear hstep cX hX HBI t2 a0 a1
            go_wp2_with fail
            go_quiet (fail)
            go_wp2_with fail
            go_roundg (gk - 1)
            case measure => omega
            case rel =>
              refine ⟨i + 1, by omega, by first | rfl | (rw [wrap64_in _ ⟨by omega, by omega⟩]; rfl) | simp, be, rfl, HB2, hide ?_⟩
              obtain ⟨n, hn⟩ := HWI.out
              rw [hn]
              exact ⟨_, World.drewN_drewN ..⟩
        · have hbv : b = decide (bl L ∈ acc.map Prod.fst) := by
            have := HBI.out
            rw [List.take_of_length_le (by omega)] at this
            exact this
          cases b with
          | true =>
            have HTG3 : Hid (tg = attrsOf acc ((bl s).drop q2)) := hide (by
              rw [HTGc.out]
              unfold addAt
              rw [if_pos (of_decide_eq_true hbv.symm)])
            clear hbv HTGc HBI HX t2 a0 a1
            go_wp2_with fail
            go_roundg (s.size - q2)
            case measure => omega
            case rel =>
              refine ⟨q2, acc, .slice ap acc.length ac, by omega, rfl, by omega, hide ?_, HTG3⟩
              obtain ⟨n, hn⟩ := HWI.out
              rw [hn]
              exact HCONT.out n
          | false =>
            have HTG3 : Hid (tg = attrsOf (acc ++ [(bl L, bl V)]) ((bl s).drop q2)) := hide (by
              rw [HTGc.out]
              unfold addAt
              rw [if_neg (of_decide_eq_false hbv.symm)])
            have HRTr : Hid (RT w w2.heap.size NM acc (.slice ap acc.length ac) false wr) := hide (by
              obtain ⟨n, hn⟩ := HWI.out
              rw [hn]
              exact HCONT.out n)
            have HSZ : Hid (w.heap.size ≤ wr.heap.size) := hide HRTr.out.2.2.2.2.size
            obtain ⟨i0, hi0, hz0, hz1, hz2⟩ := info_parts infoAttr
            clear hbv HTGc HBI HX t2 a0 a1 HCONT HWI HWA
            go_wp2_with (at_builtin; refine wpList_append_own _ rfl _ _ 30 rfl w.heap.size 34 i0 _ 2 32 Tryd.underlying30 hi0 hz0 hz1 hz2 rfl (by decide) (.slice ap acc.length ac) acc.length (attrCells acc) rfl (HRTr.out.2.2.2.1.alloc _) ⟨wr.heap.size, 0, none⟩ 1 1 [.string L, .string V] rfl rfl (two_new _ _ _ _) (two_one _ _) (by unfold maxLen; omega) (by omega) (by have := HSZ.out; simp; omega) ?_)
            intro v' w10 hown hgr _
            obtain ⟨d1, d2, hrt⟩ := HRTr.out.append hown hgr
            obtain ⟨bp, bm, bc, rfl⟩ := own_slice hown
            have HRT11 := hide hrt
            clear hrt hown hgr HRTr
            go_wp2_with fail
            go_roundg (s.size - q2)
            case measure => omega
            case rel => exact ⟨q2, _, _, by omega, rfl, by rw [List.length_append]; simp; omega, HRT11, HTG3⟩
end Go.Proofs.YtjmgcdeinjamiaaDoor
