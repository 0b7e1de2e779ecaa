/-
  readTag at its labels 'none' and 'end'.
-/
import Derived.Test.YtholfdfjapgfbaaGreatDoorT3
namespace Go.Proofs.YtholfdfjapgfbaaGreatDoor
open Go.RowKit
open Utf1

set_option maxHeartbeats 1000000 in
theorem tag_none (w0 : World) (start : Bool) (nm : ByteArray) (tg : Option (Tk × List UInt8)) (N n : Nat) (a : Act) (wr : World) (hJ : JNon w0 tg n a wr) :
    ∃ rest, findLabel tagCode 1 = some rest ∧ rest.wp Tryz.prog (jumps (fun l' a' w' => ∃ n', n' < n ∧ tagJ w0 start nm tg N n' l' a' w') (bodyPost Tryz.prog Tryz.f24 (TagPost tg w0))) a wr := by
  unfold JNon at hJ
  obtain ⟨u0, hJ⟩ := hJ; obtain ⟨u1, hJ⟩ := hJ; obtain ⟨u5, hJ⟩ := hJ; obtain ⟨u6, hJ⟩ := hJ; obtain ⟨u7, hJ⟩ := hJ; obtain ⟨u8, hJ⟩ := hJ; obtain ⟨u11, hJ⟩ := hJ; obtain ⟨u12, hJ⟩ := hJ; obtain ⟨u13, hJ⟩ := hJ; obtain ⟨u14, hJ⟩ := hJ; obtain ⟨u15, hJ⟩ := hJ; obtain ⟨u16, hJ⟩ := hJ; obtain ⟨u17, hJ⟩ := hJ; obtain ⟨u18, hJ⟩ := hJ; obtain ⟨u19, hJ⟩ := hJ; obtain ⟨u20, hJ⟩ := hJ; obtain ⟨u21, hJ⟩ := hJ; obtain ⟨u22, hJ⟩ := hJ; obtain ⟨u23, hJ⟩ := hJ; obtain ⟨u24, hJ⟩ := hJ; obtain ⟨u25, hJ⟩ := hJ; obtain ⟨u26, hJ⟩ := hJ; obtain ⟨u27, hJ⟩ := hJ; obtain ⟨u28, hJ⟩ := hJ; obtain ⟨u29, hJ⟩ := hJ; obtain ⟨u30, hJ⟩ := hJ; obtain ⟨u31, hJ⟩ := hJ; obtain ⟨u32, hJ⟩ := hJ; obtain ⟨u33, hJ⟩ := hJ; obtain ⟨u34, hJ⟩ := hJ; obtain ⟨u35, hJ⟩ := hJ; obtain ⟨u36, hJ⟩ := hJ; obtain ⟨u37, hJ⟩ := hJ; obtain ⟨u38, hJ⟩ := hJ; obtain ⟨u39, hJ⟩ := hJ; obtain ⟨u40, hJ⟩ := hJ; obtain ⟨u41, hJ⟩ := hJ; obtain ⟨u42, hJ⟩ := hJ; obtain ⟨u43, hJ⟩ := hJ; obtain ⟨u44, hJ⟩ := hJ; obtain ⟨u45, hJ⟩ := hJ; obtain ⟨u46, hJ⟩ := hJ; obtain ⟨u47, hJ⟩ := hJ; obtain ⟨u48, hJ⟩ := hJ; obtain ⟨u49, hJ⟩ := hJ; obtain ⟨u50, hJ⟩ := hJ; obtain ⟨u51, hJ⟩ := hJ; obtain ⟨u52, hJ⟩ := hJ; obtain ⟨u53, hJ⟩ := hJ; obtain ⟨u54, hJ⟩ := hJ; obtain ⟨u55, hJ⟩ := hJ; obtain ⟨u56, hJ⟩ := hJ; obtain ⟨u57, hJ⟩ := hJ; obtain ⟨u58, hJ⟩ := hJ; obtain ⟨u59, hJ⟩ := hJ; obtain ⟨u60, hJ⟩ := hJ; obtain ⟨u61, hJ⟩ := hJ; obtain ⟨u62, hJ⟩ := hJ; obtain ⟨u63, hJ⟩ := hJ; obtain ⟨u64, hJ⟩ := hJ; obtain ⟨u65, hJ⟩ := hJ; obtain ⟨u66, hJ⟩ := hJ; obtain ⟨u67, hJ⟩ := hJ; obtain ⟨u68, hJ⟩ := hJ; obtain ⟨u69, hJ⟩ := hJ; obtain ⟨u70, hJ⟩ := hJ; obtain ⟨u71, hJ⟩ := hJ; obtain ⟨u72, hJ⟩ := hJ; obtain ⟨u73, hJ⟩ := hJ; obtain ⟨u74, hJ⟩ := hJ; obtain ⟨u75, hJ⟩ := hJ; obtain ⟨u76, hJ⟩ := hJ; obtain ⟨u77, hJ⟩ := hJ; obtain ⟨u78, hJ⟩ := hJ; obtain ⟨u79, hJ⟩ := hJ; obtain ⟨u80, hJ⟩ := hJ; obtain ⟨u81, hJ⟩ := hJ; obtain ⟨u82, hJ⟩ := hJ; obtain ⟨u83, hJ⟩ := hJ; obtain ⟨u84, hJ⟩ := hJ; obtain ⟨u85, hJ⟩ := hJ; obtain ⟨u86, hJ⟩ := hJ; obtain ⟨u87, hJ⟩ := hJ; obtain ⟨u88, hJ⟩ := hJ; obtain ⟨u89, hJ⟩ := hJ; obtain ⟨u90, hJ⟩ := hJ; obtain ⟨u91, hJ⟩ := hJ; obtain ⟨u92, hJ⟩ := hJ; obtain ⟨u93, hJ⟩ := hJ; obtain ⟨u94, hJ⟩ := hJ; obtain ⟨u95, hJ⟩ := hJ; obtain ⟨u96, hJ⟩ := hJ; obtain ⟨u97, hJ⟩ := hJ; obtain ⟨u98, hJ⟩ := hJ; obtain ⟨u99, hJ⟩ := hJ; obtain ⟨u100, hJ⟩ := hJ; obtain ⟨u101, hJ⟩ := hJ; obtain ⟨u102, hJ⟩ := hJ; obtain ⟨u103, hJ⟩ := hJ; obtain ⟨u104, hJ⟩ := hJ; obtain ⟨u105, hJ⟩ := hJ; obtain ⟨u106, hJ⟩ := hJ; obtain ⟨u107, hJ⟩ := hJ; obtain ⟨u108, hJ⟩ := hJ; obtain ⟨u109, hJ⟩ := hJ; obtain ⟨u110, hJ⟩ := hJ; obtain ⟨u111, hJ⟩ := hJ; obtain ⟨u112, hJ⟩ := hJ; obtain ⟨u113, hJ⟩ := hJ; obtain ⟨u114, hJ⟩ := hJ; obtain ⟨u115, hJ⟩ := hJ; obtain ⟨u116, hJ⟩ := hJ; obtain ⟨u117, hJ⟩ := hJ; obtain ⟨u118, hJ⟩ := hJ; obtain ⟨u119, hJ⟩ := hJ; obtain ⟨u120, hJ⟩ := hJ; obtain ⟨u121, hJ⟩ := hJ; obtain ⟨u122, hJ⟩ := hJ; obtain ⟨u123, hJ⟩ := hJ; obtain ⟨u124, hJ⟩ := hJ; obtain ⟨u125, hJ⟩ := hJ; obtain ⟨hrel, ha⟩ := hJ; subst ha
  obtain ⟨rfl, hR, hb, HT⟩ := hrel
  have c0 := tag_cell hR 0 _ rfl
  have c1 := tag_cell hR 1 _ rfl
  have c2 := tag_cell hR 2 _ rfl
  have c3 := tag_cell hR 3 _ rfl
  have c4 := tag_cell hR 4 _ rfl
  have f0 := tag_free hR 0
  have f1 := tag_free hR 1
  have f2 := tag_free hR 2
  have f3 := tag_free hR 3
  have f4 := tag_free hR 4
  have hR := hide hR
  refine ⟨_, rfl, ?_⟩
  go_wp2
  simp only [jumps]
  refine ret_tag w0.heap.size _ _ _ _ _ _ _ rfl rfl rfl rfl (tok_five hR.out _ _ _ _ _) ?_
  rw [HT.out]
  exact ⟨rfl, below_five hb (Nat.le_refl _) _ _ _ _ _⟩

set_option maxHeartbeats 2000000 in
theorem tag_end (w0 : World) (start : Bool) (nm : ByteArray) (tg : Option (Tk × List UInt8)) (N n : Nat) (a : Act) (wr : World) (hN : N ≤ 4294967280) (hJ : JEnd w0 start nm tg N n a wr) :
    ∃ rest, findLabel tagCode 2 = some rest ∧ rest.wp Tryz.prog (jumps (fun l' a' w' => ∃ n', n' < n ∧ tagJ w0 start nm tg N n' l' a' w') (bodyPost Tryz.prog Tryz.f24 (TagPost tg w0))) a wr := by
  unfold JEnd at hJ
  obtain ⟨s, hJ⟩ := hJ; obtain ⟨gap, hJ⟩ := hJ; obtain ⟨acc, hJ⟩ := hJ; obtain ⟨k, hJ⟩ := hJ; obtain ⟨av, hJ⟩ := hJ; obtain ⟨u1, hJ⟩ := hJ; obtain ⟨u6, hJ⟩ := hJ; obtain ⟨u7, hJ⟩ := hJ; obtain ⟨u8, hJ⟩ := hJ; obtain ⟨u11, hJ⟩ := hJ; obtain ⟨u12, hJ⟩ := hJ; obtain ⟨u13, hJ⟩ := hJ; obtain ⟨u14, hJ⟩ := hJ; obtain ⟨u15, hJ⟩ := hJ; obtain ⟨u16, hJ⟩ := hJ; obtain ⟨u17, hJ⟩ := hJ; obtain ⟨u18, hJ⟩ := hJ; obtain ⟨u19, hJ⟩ := hJ; obtain ⟨u20, hJ⟩ := hJ; obtain ⟨u21, hJ⟩ := hJ; obtain ⟨u22, hJ⟩ := hJ; obtain ⟨u23, hJ⟩ := hJ; obtain ⟨u24, hJ⟩ := hJ; obtain ⟨u25, hJ⟩ := hJ; obtain ⟨u26, hJ⟩ := hJ; obtain ⟨u27, hJ⟩ := hJ; obtain ⟨u28, hJ⟩ := hJ; obtain ⟨u29, hJ⟩ := hJ; obtain ⟨u30, hJ⟩ := hJ; obtain ⟨u31, hJ⟩ := hJ; obtain ⟨u32, hJ⟩ := hJ; obtain ⟨u33, hJ⟩ := hJ; obtain ⟨u34, hJ⟩ := hJ; obtain ⟨u35, hJ⟩ := hJ; obtain ⟨u36, hJ⟩ := hJ; obtain ⟨u37, hJ⟩ := hJ; obtain ⟨u38, hJ⟩ := hJ; obtain ⟨u39, hJ⟩ := hJ; obtain ⟨u40, hJ⟩ := hJ; obtain ⟨u41, hJ⟩ := hJ; obtain ⟨u42, hJ⟩ := hJ; obtain ⟨u43, hJ⟩ := hJ; obtain ⟨u44, hJ⟩ := hJ; obtain ⟨u45, hJ⟩ := hJ; obtain ⟨u46, hJ⟩ := hJ; obtain ⟨u47, hJ⟩ := hJ; obtain ⟨u48, hJ⟩ := hJ; obtain ⟨u49, hJ⟩ := hJ; obtain ⟨u50, hJ⟩ := hJ; obtain ⟨u51, hJ⟩ := hJ; obtain ⟨u52, hJ⟩ := hJ; obtain ⟨u53, hJ⟩ := hJ; obtain ⟨u54, hJ⟩ := hJ; obtain ⟨u55, hJ⟩ := hJ; obtain ⟨u56, hJ⟩ := hJ; obtain ⟨u57, hJ⟩ := hJ; obtain ⟨u58, hJ⟩ := hJ; obtain ⟨u59, hJ⟩ := hJ; obtain ⟨u60, hJ⟩ := hJ; obtain ⟨u61, hJ⟩ := hJ; obtain ⟨u62, hJ⟩ := hJ; obtain ⟨u63, hJ⟩ := hJ; obtain ⟨u64, hJ⟩ := hJ; obtain ⟨u65, hJ⟩ := hJ; obtain ⟨u66, hJ⟩ := hJ; obtain ⟨u67, hJ⟩ := hJ; obtain ⟨u68, hJ⟩ := hJ; obtain ⟨u69, hJ⟩ := hJ; obtain ⟨u70, hJ⟩ := hJ; obtain ⟨u71, hJ⟩ := hJ; obtain ⟨u72, hJ⟩ := hJ; obtain ⟨u73, hJ⟩ := hJ; obtain ⟨u74, hJ⟩ := hJ; obtain ⟨u75, hJ⟩ := hJ; obtain ⟨u76, hJ⟩ := hJ; obtain ⟨u77, hJ⟩ := hJ; obtain ⟨u78, hJ⟩ := hJ; obtain ⟨u79, hJ⟩ := hJ; obtain ⟨u80, hJ⟩ := hJ; obtain ⟨u81, hJ⟩ := hJ; obtain ⟨u82, hJ⟩ := hJ; obtain ⟨u83, hJ⟩ := hJ; obtain ⟨u84, hJ⟩ := hJ; obtain ⟨u85, hJ⟩ := hJ; obtain ⟨u86, hJ⟩ := hJ; obtain ⟨u87, hJ⟩ := hJ; obtain ⟨u88, hJ⟩ := hJ; obtain ⟨u89, hJ⟩ := hJ; obtain ⟨u90, hJ⟩ := hJ; obtain ⟨u91, hJ⟩ := hJ; obtain ⟨u92, hJ⟩ := hJ; obtain ⟨u93, hJ⟩ := hJ; obtain ⟨u94, hJ⟩ := hJ; obtain ⟨u95, hJ⟩ := hJ; obtain ⟨u96, hJ⟩ := hJ; obtain ⟨u97, hJ⟩ := hJ; obtain ⟨u98, hJ⟩ := hJ; obtain ⟨u99, hJ⟩ := hJ; obtain ⟨u100, hJ⟩ := hJ; obtain ⟨u101, hJ⟩ := hJ; obtain ⟨u102, hJ⟩ := hJ; obtain ⟨u103, hJ⟩ := hJ; obtain ⟨u104, hJ⟩ := hJ; obtain ⟨u105, hJ⟩ := hJ; obtain ⟨u106, hJ⟩ := hJ; obtain ⟨u107, hJ⟩ := hJ; obtain ⟨u108, hJ⟩ := hJ; obtain ⟨u109, hJ⟩ := hJ; obtain ⟨u110, hJ⟩ := hJ; obtain ⟨u111, hJ⟩ := hJ; obtain ⟨u112, hJ⟩ := hJ; obtain ⟨u113, hJ⟩ := hJ; obtain ⟨u114, hJ⟩ := hJ; obtain ⟨u115, hJ⟩ := hJ; obtain ⟨u116, hJ⟩ := hJ; obtain ⟨u117, hJ⟩ := hJ; obtain ⟨u118, hJ⟩ := hJ; obtain ⟨u119, hJ⟩ := hJ; obtain ⟨u120, hJ⟩ := hJ; obtain ⟨u121, hJ⟩ := hJ; obtain ⟨u122, hJ⟩ := hJ; obtain ⟨u123, hJ⟩ := hJ; obtain ⟨u124, hJ⟩ := hJ; obtain ⟨u125, hJ⟩ := hJ; obtain ⟨hrel, ha⟩ := hJ; subst ha
  obtain ⟨rfl, hgap, hs1, hsN, hst, HT⟩ := hrel
  obtain ⟨hR, hT, hown, -, -, hb⟩ := hst
  have hsf := fun w => Tryz.strings_HasSuffix gap ⟨#[47]⟩ w (by omega)
  obtain ⟨cl, hcl⟩ : ∃ cl, cl = [47].isSuffixOf (bl gap) := ⟨_, rfl⟩
  have hsf : ∀ w, Calls Tryz.prog 49 #[.string gap, .string ⟨#[47]⟩] w fun e w' => e = .returned (.bool cl) ∧ w' = w := by
    intro w
    rw [hcl]
    exact hsf w
  rw [← hcl] at HT
  clear hcl
  have hex := hide (ext_drop s 1)
  obtain ⟨ap, am, ac, rfl⟩ := own_slice hown
  refine ⟨_, rfl, ?_⟩
  cases start
  · have t0 : wr.cell? ⟨w0.heap.size + 1, 0, none⟩ = some (.int .i64 3) := tag_cell hT 0 _ rfl
    have t1 : wr.cell? ⟨w0.heap.size + 1, 1, none⟩ = some (.string nm) := tag_cell hT 1 _ rfl
    have t2 : wr.cell? ⟨w0.heap.size + 1, 2, none⟩ = some (.slice ap am ac) := tag_cell hT 2 _ rfl
    have t3 : wr.cell? ⟨w0.heap.size + 1, 3, none⟩ = some (.bool false) := tag_cell hT 3 _ rfl
    have t4 : wr.cell? ⟨w0.heap.size + 1, 4, none⟩ = some (.string ⟨#[]⟩) := tag_cell hT 4 _ rfl
    have g3 := tag_free hT 3
    have c0 := tag_cell hR 0 _ rfl
    have c1 := tag_cell hR 1 _ rfl
    have c2 := tag_cell hR 2 _ rfl
    have c3 := tag_cell hR 3 _ rfl
    have c4 := tag_cell hR 4 _ rfl
    have f0 := tag_free hR 0
    have f1 := tag_free hR 1
    have f2 := tag_free hR 2
    have f3 := tag_free hR 3
    have f4 := tag_free hR 4
    have hne : ∀ v, (wr.setCell ⟨w0.heap.size + 1, 3, none⟩ v).heap[w0.heap.size]? = wr.heap[w0.heap.size]? := fun v => Below.heap_setCell _ _ _ _ (by simp)
    have HB := fun v => (hne v).trans hR
    have HO := fun v => own_set hown hT (by decide) 3 v
    have hb2 := fun v => hb.setCell (p := ⟨w0.heap.size + 1, 3, none⟩) (Nat.le_succ _) v
    clear hR hT hown hne
    have HB := hide HB
    have HO := hide HO
    have hb2 := hide hb2
    go_wp2
    go_region
    all_goals (try go_wp2)
    all_goals simp only [jumps]
    all_goals refine ret_tagd w0.heap.size _ _ _ _ _ _ _ rfl rfl rfl rfl (tok_five (HB.out _) _ _ _ _ _) ?_
    all_goals rw [HT.out, hex.out]
    all_goals exact ⟨_, rfl, (own_five (HO.out _) (HB.out _) (by decide) _ _ _ _ _).drew, (below_five (hb2.out _) (Nat.le_refl _) _ _ _ _ _).drew⟩
  · have t0 : wr.cell? ⟨w0.heap.size + 1, 0, none⟩ = some (.int .i64 2) := tag_cell hT 0 _ rfl
    have t1 : wr.cell? ⟨w0.heap.size + 1, 1, none⟩ = some (.string nm) := tag_cell hT 1 _ rfl
    have t2 : wr.cell? ⟨w0.heap.size + 1, 2, none⟩ = some (.slice ap am ac) := tag_cell hT 2 _ rfl
    have t3 : wr.cell? ⟨w0.heap.size + 1, 3, none⟩ = some (.bool false) := tag_cell hT 3 _ rfl
    have t4 : wr.cell? ⟨w0.heap.size + 1, 4, none⟩ = some (.string ⟨#[]⟩) := tag_cell hT 4 _ rfl
    have g3 := tag_free hT 3
    have c0 := tag_cell hR 0 _ rfl
    have c1 := tag_cell hR 1 _ rfl
    have c2 := tag_cell hR 2 _ rfl
    have c3 := tag_cell hR 3 _ rfl
    have c4 := tag_cell hR 4 _ rfl
    have f0 := tag_free hR 0
    have f1 := tag_free hR 1
    have f2 := tag_free hR 2
    have f3 := tag_free hR 3
    have f4 := tag_free hR 4
    have hne : ∀ v, (wr.setCell ⟨w0.heap.size + 1, 3, none⟩ v).heap[w0.heap.size]? = wr.heap[w0.heap.size]? := fun v => Below.heap_setCell _ _ _ _ (by simp)
    have HB := fun v => (hne v).trans hR
    have HO := fun v => own_set hown hT (by decide) 3 v
    have hb2 := fun v => hb.setCell (p := ⟨w0.heap.size + 1, 3, none⟩) (Nat.le_succ _) v
    clear hR hT hown hne
    have HB := hide HB
    have HO := hide HO
    have hb2 := hide hb2
    go_wp2_with fail
    refine (hsf _).mono ?_
    rintro e w1 ⟨rfl, rfl⟩
    go_wp2_with fail
    go_region
    all_goals (try go_wp2)
    all_goals simp only [jumps]
    all_goals refine ret_tagd w0.heap.size _ _ _ _ _ _ _ rfl rfl rfl rfl (tok_five (HB.out _) _ _ _ _ _) ?_
    all_goals rw [HT.out, hex.out]
    all_goals exact ⟨_, rfl, (own_five (HO.out _) (HB.out _) (by decide) _ _ _ _ _).drew, (below_five (hb2.out _) (Nat.le_refl _) _ _ _ _ _).drew⟩
end Go.Proofs.YtholfdfjapgfbaaGreatDoor
