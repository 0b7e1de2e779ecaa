/-
  What tok.readTag answers where a tag begins.
-/
import Derived.Test.YtholfdfjapgfbaaGreatDoorU1
import Derived.Test.YtholfdfjapgfbaaGreatDoorU2
import Derived.Test.YtholfdfjapgfbaaGreatDoorU4
import Derived.Test.YtholfdfjapgfbaaGreatDoorU6
namespace Go.Proofs.YtholfdfjapgfbaaGreatDoor
open Go.RowKit
open Utf1

theorem beg3 {l : List UInt8} (h : beg l = 3) : ∃ d r, l = 60 :: d :: r := by
  cases l with
  | nil => cases h
  | cons c t =>
    by_cases hc : c = 60
    · subst hc
      rw [beg_lt] at h
      cases t with
      | nil => cases h
      | cons d r => exact ⟨d, r, rfl⟩
    · rw [beg_ne t hc] at h
      cases h

theorem tag_pass (w0 : World) (start : Bool) (nm : ByteArray) (tg : Option (Tk × List UInt8)) (N : Nat) (hN : N ≤ 4294967280) (hg : Glob w0) (n l : Nat) (a : Act) (w : World) (hJ : tagJ w0 start nm tg N n l a w) :
    ∃ rest, findLabel tagCode l = some rest ∧ rest.wp Tryz.prog (jumps (fun l' a' w' => ∃ n', n' < n ∧ tagJ w0 start nm tg N n' l' a' w') (bodyPost Tryz.prog Tryz.f24 (TagPost tg w0))) a w :=
  match l, hJ with
  | 0, hJ => of_label (tag_between w0 start nm tg N n a w hN hJ)
  | 1, hJ => tag_none w0 start nm tg N n a w hJ
  | 2, hJ => tag_end w0 start nm tg N n a w hN hJ
  | 3, hJ => of_label (tag_keep w0 start nm tg N n a w hN hg hJ)
  | 4, hJ => tag_quoted w0 start nm tg N n a w hN hJ (fun n a w h => tag_keep w0 start nm tg N n a w hN hg h)
  | _ + 5, hJ => hJ.elim

theorem to_between {w0 : World} {start : Bool} {nm : ByteArray} {tg : Option (Tk × List UInt8)} {N : Nat} {c : Code} {a : Act} {w : World} (hN : N ≤ 4294967280) (hf : findLabel tagCode 0 = some (.seq .skip c)) (n : Nat) (hJ : JBet w0 start nm tg N n a w) :
    c.wp Tryz.prog (jumps (fun l' a' w' => ∃ n', tagJ w0 start nm tg N n' l' a' w') (bodyPost Tryz.prog Tryz.f24 (TagPost tg w0))) a w := by
  obtain ⟨rest, h1, h2⟩ := tag_between w0 start nm tg N n a w hN hJ
  rw [hf] at h1
  cases h1
  exact Code.wp_mono (jumps_mono (fun l a w ⟨n', _, h2⟩ => ⟨n', h2⟩)) h2

theorem three_a (w : World) (a b c : Obj) : (((w.alloc a).alloc b).alloc c).heap[w.heap.size]? = some a := by
  show (((w.heap.push a).push b).push c)[w.heap.size]? = _
  rw [Array.getElem?_push, if_neg (by simp; omega), Array.getElem?_push, if_neg (by simp), Array.getElem?_push, if_pos rfl]
theorem three_b (w : World) (a b c : Obj) : (((w.alloc a).alloc b).alloc c).heap[w.heap.size + 1]? = some b := by
  show (((w.heap.push a).push b).push c)[w.heap.size + 1]? = _
  rw [Array.getElem?_push, if_neg (by simp), Array.getElem?_push, if_pos (by simp)]
theorem three_c (w : World) (a b c : Obj) : (((w.alloc a).alloc b).alloc c).heap[w.heap.size + 2]? = some c := by
  show (((w.heap.push a).push b).push c)[w.heap.size + 2]? = _
  rw [Array.getElem?_push, if_pos (by simp)]
theorem three_w (w : World) (a b c : Obj) : Below w.heap.size w (((w.alloc a).alloc b).alloc c) := (((Below.refl _ _).alloc (Nat.le_refl _) _).alloc (by simp) _).alloc (by simp; omega) _

theorem tag_math {l b : List UInt8} {NA S3 L : ByteArray} (start : Bool) (hs : (l.getD 1 0 = 47) ↔ start = false) (hb : tagBody l = b) (HNA : bl NA = b.takeWhile (fun x => !isNm x)) (H3 : bl S3 = b.dropWhile (fun x => !isNm x)) (hL : bl L = lower (bl NA)) : tagOf l = (attrsOf [] (bl S3)).map (mkTk start L) := by
  unfold tagOf
  rw [hb, ← H3, ← HNA, ← hL]
  cases attrsOf [] (bl S3) with
  | none => rfl
  | some p =>
    obtain ⟨a, cl, r⟩ := p
    simp only
    cases start
    · rw [if_pos (hs.2 rfl)]
      rfl
    · rw [if_neg (by intro h; cases hs.1 h)]
      rfl

theorem calls_world {P : Program} {f : FuncId} {args : Array Value} {w : World} {R : Ending → World → Prop} (h : ∀ wA, wA = w → Calls P f args wA R) : Calls P f args w R := h w rfl

theorem tag_start {w0 wA w3 : World} {kd : Bool} (hR : wA.heap[w0.heap.size]? = some (.cells #[.int .i64 0, .string ⟨#[]⟩, .slice none 0 0, .bool false, .string ⟨#[]⟩] 35 (0, 0)))
    (hT : wA.heap[w0.heap.size + 1]? = some (.cells #[.int .i64 (if kd then 2 else 3), .string ⟨#[]⟩, .slice none 0 0, .bool false, .string ⟨#[]⟩] 35 (0, 0))) (hM : wA.heap[w0.heap.size + 2]? = some (.map #[] 0)) (hb0 : Below w0.heap.size w0 wA) (hb : Below wA.heap.size wA w3) (nm : ByteArray) :
    w3.cell? ⟨w0.heap.size + 1, 1, none⟩ = some (.string ⟨#[]⟩) ∧ w3.frozen? ⟨w0.heap.size + 1, 1, none⟩ = false ∧ TagSt w0 (w3.setCell ⟨w0.heap.size + 1, 1, none⟩ (.string nm)) kd nm [] 0 (.slice none 0 0) := by
  have a1 := (hb.block _ (lt_of_block hR)).trans hR
  have a2 := (hb.block _ (lt_of_block hT)).trans hT
  have a3 := (hb.block _ (lt_of_block hM)).trans hM
  have ha : atts kd [] = [] := by cases kd <;> rfl
  refine ⟨tag_cell a2 1 _ rfl, tag_free a2 1, ?_, ?_, ?_, ⟨.map [], ?_, ⟨[], rfl⟩, ?_⟩, Nat.le_refl _, ?_⟩
  · exact (Below.heap_setCell _ _ _ _ (by simp)).trans a1
  · exact tok_set a2 1 _
  · rw [ha]
    exact World.ownsRow_nil _ _ _ _
  · exact ⟨#[], 0, (Below.heap_setCell _ _ _ _ (by simp)).trans a3, ⟨by simp, MapKept.stamped_empty 0, by simp⟩, by simp, rfl⟩
  · intro n
    exact ⟨0, rfl, by omega, by omega, by simp⟩
  · exact (hb0.trans (hb.mono hb0.size)).setCell (p := ⟨w0.heap.size + 1, 1, none⟩) (Nat.le_succ _) _

set_option maxRecDepth 100000 in
set_option maxHeartbeats 4000000 in
theorem readTag_any (s : ByteArray) (w : World) (hg : Glob w) (hs : s.size ≤ 4294967280) (hb : beg (bl s) = 3) :
    Calls Tryz.prog 24 #[.string s] w fun e w' => TagPost (tagOf (bl s)) w e w' := by
  obtain ⟨d, r, hl⟩ := beg3 hb
  have h1 := ext_one hl
  have hz := size_ext_one s
  have hs1 : 2 ≤ s.size := by rw [← bl_len, hl]; simp
  have hmm := @run_makeMap Tryz.prog
  have i00 := fun w => idx0 h1 w
  by_cases hd : d = 47
  · have h2 : bl ((s.extract 1 s.size).extract 1 (s.extract 1 s.size).size) = r := ext_one h1
    have hz2 := size_ext_one (s.extract 1 s.size)
    have hs2 : 1 ≤ (s.extract 1 s.size).size := by omega
    rw [hz] at h2 hz2
    generalize hS2 : (s.extract 1 s.size).extract 1 (s.size - 1) = S2 at h2 hz2
    obtain ⟨NA, S3, HNA, H3, hz3, HP3⟩ := pass_noneE S2 ⟨#[9, 10, 12, 13, 32, 47, 62]⟩ (fun x => !isNm x) set_nm (by omega)
    obtain ⟨z, hzz⟩ : ∃ z : Int, z = (d.toNat : Int) := ⟨_, rfl⟩
    have i0 : ∀ w, (Instr.index 9 (.string (s.extract 1 s.size)) (.int .i64 0)).run Tryz.prog w = .ok (.int .u8 z) w := by
      rw [hzz]
      exact i00
    have hzb : (z == 47) = true := by
      rw [hzz, hd]
      rfl
    have hlo := fun w => lower_any NA w
    have hLb : bl ⟨(lower (bl NA)).toArray⟩ = lower (bl NA) := rfl
    generalize (⟨(lower (bl NA)).toArray⟩ : ByteArray) = L at hlo hLb
    have HT : Hid (tagOf (bl s) = (attrsOf [] (bl S3)).map (mkTk false L)) := hide (tag_math false (by rw [hl]; simp [hd]) (b := bl S2) (by rw [h2, hl, hd]; rfl) HNA.out H3.out hLb)
    clear i00 hzz hl h1 h2 hb
    go_enter Tryz.func24, Tryz.ntmps24
    go_wp2
    refine wp_scope_all (tagJ w false L (tagOf (bl s)) s.size) (tag_pass w false L (tagOf (bl s)) s.size hs hg) ?_
    go_wp2_with fail
    refine calls_world ?_
    intro wA hwA
    have HW := hide hwA
    clear hwA
    refine (noneOf_c _ _).mono ?_
    rintro e w1 ⟨rfl, hc1, -, hb1⟩
    go_wp2_with fail
    refine (HP3.out _ _ hc1).mono ?_
    rintro e w2 ⟨rfl, hb2⟩
    go_wp2_with fail
    refine (hlo _).mono ?_
    rintro e w3 ⟨rfl, hb3⟩
    have hbA := bel2 hb1 (bel2 hb2 (hb3.mono (Nat.le_refl _)))
    obtain ⟨d1, d2, hst⟩ := tag_start (w0 := w) (kd := false) (by rw [HW.out]; exact three_a _ _ _ _) (by rw [HW.out]; exact three_b _ _ _ _) (by rw [HW.out]; exact three_c _ _ _ _) (by rw [HW.out]; exact three_w _ _ _ _) hbA L
    have HST := hide hst
    clear hst hbA hb1 hb2 hb3 hc1
    go_wp2_with fail
    go_step3
    go_step
    go_step
    refine to_between hs rfl (4 * S3.size + 3) ?_
    unfold JBet
    (repeat apply Exists.intro)
    refine ⟨⟨rfl, ?_, HST.out, HT⟩, rfl⟩
    omega
  · obtain ⟨NA, S3, HNA, H3, hz3, HP3⟩ := pass_noneE (s.extract 1 s.size) ⟨#[9, 10, 12, 13, 32, 47, 62]⟩ (fun x => !isNm x) set_nm (by omega)
    obtain ⟨z, hzz⟩ : ∃ z : Int, z = (d.toNat : Int) := ⟨_, rfl⟩
    have i0 : ∀ w, (Instr.index 9 (.string (s.extract 1 s.size)) (.int .i64 0)).run Tryz.prog w = .ok (.int .u8 z) w := by
      rw [hzz]
      exact i00
    have hzb : (z == 47) = false := beq_eq_false_iff_ne.2 (by
      intro e
      apply hd
      have : d = UInt8.ofNat 47 := (u8_eq (by decide)).2 (by omega)
      exact this)
    have hlo := fun w => lower_any NA w
    have hLb : bl ⟨(lower (bl NA)).toArray⟩ = lower (bl NA) := rfl
    generalize (⟨(lower (bl NA)).toArray⟩ : ByteArray) = L at hlo hLb
    have HT : Hid (tagOf (bl s) = (attrsOf [] (bl S3)).map (mkTk true L)) := hide (tag_math true (by rw [hl]; simp [hd]) (b := bl (s.extract 1 s.size)) (by rw [h1, hl]; unfold tagBody; rw [if_neg (by simpa using hd)]; rfl) HNA.out H3.out hLb)
    clear i00 hzz hl h1 hb
    go_enter Tryz.func24, Tryz.ntmps24
    go_wp2
    refine wp_scope_all (tagJ w true L (tagOf (bl s)) s.size) (tag_pass w true L (tagOf (bl s)) s.size hs hg) ?_
    go_wp2_with fail
    refine calls_world ?_
    intro wA hwA
    have HW := hide hwA
    clear hwA
    refine (noneOf_c _ _).mono ?_
    rintro e w1 ⟨rfl, hc1, -, hb1⟩
    go_wp2_with fail
    refine (HP3.out _ _ hc1).mono ?_
    rintro e w2 ⟨rfl, hb2⟩
    go_wp2_with fail
    refine (hlo _).mono ?_
    rintro e w3 ⟨rfl, hb3⟩
    have hbA := bel2 hb1 (bel2 hb2 (hb3.mono (Nat.le_refl _)))
    obtain ⟨d1, d2, hst⟩ := tag_start (w0 := w) (kd := true) (by rw [HW.out]; exact three_a _ _ _ _) (by rw [HW.out]; exact three_b _ _ _ _) (by rw [HW.out]; exact three_c _ _ _ _) (by rw [HW.out]; exact three_w _ _ _ _) hbA L
    have HST := hide hst
    clear hst hbA hb1 hb2 hb3 hc1
    go_wp2_with fail
    go_step3
    go_step
    go_step
    refine to_between hs rfl (4 * S3.size + 3) ?_
    unfold JBet
    (repeat apply Exists.intro)
    refine ⟨⟨rfl, ?_, HST.out, HT⟩, rfl⟩
    omega
end Go.Proofs.YtholfdfjapgfbaaGreatDoor
