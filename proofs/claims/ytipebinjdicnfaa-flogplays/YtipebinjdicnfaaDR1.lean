/-
  The document's device, walked: New, goes, Arm.
-/
import Derived.Test.YtipebinjdicnfaaDVH
namespace Go.Proofs.Ytipebinjdicnfaa
open Go.RowKit

/-- The document's device: what lasts, what waits, how many calls are left, whether the power is gone. -/
structure Rv where
  la : List UInt8
  wa : List UInt8
  n : Int
  off : Bool
def Rv.ok (s : Rv) : Prop := s.la.length + s.wa.length ≤ 60000 ∧ -9223372036854775808 ≤ s.n ∧ s.n ≤ 9223372036854775807
def Rv.goes (s : Rv) : Rv := if s.n = 0 then { s with off := true } else if 0 < s.n then { s with n := s.n - 1 } else s
theorem Rv.goes_same (s : Rv) : s.goes.la = s.la ∧ s.goes.wa = s.wa := by
  unfold Rv.goes
  split
  · exact ⟨rfl, rfl⟩
  · split
    · exact ⟨rfl, rfl⟩
    · exact ⟨rfl, rfl⟩

def RB (w : World) (B : Nat) (lv wv : Value) (s : Rv) : Prop := w.heap[B]? = some (.cells #[lv, wv, .int .i64 s.n, .bool s.off] 40 (0, 0))
/-- It in memory, and its blocks. -/
def RefIn (w : World) (B : Nat) (s : Rv) (F : List Nat) : Prop :=
  ∃ lv wv, RB w B lv wv s ∧ w.ownsRow 0 5 1 lv s.la.length (Lib.byteCells s.la) ∧ w.ownsRow 0 5 1 wv s.wa.length (Lib.byteCells s.wa) ∧
    (∀ k, lv.ownBlock = some k → wv.ownBlock ≠ some k) ∧ s.ok ∧ F = B :: (blk lv ++ blk wv)
/-- What a call leaves. -/
def RLeft (w w' : World) (B : Nat) (s : Rv) (F : List Nat) : Prop := ∃ F', RefIn w' B s F' ∧ Near w F F' ∧ Keep w w' F
theorem RLeft.refl {w : World} {B : Nat} {s : Rv} {F : List Nat} (h : RefIn w B s F) : RLeft w w B s F := ⟨F, h, Near.refl _ _, Keep.refl _ _⟩
theorem RefIn.lt {w : World} {B : Nat} {s : Rv} {F : List Nat} (h : RefIn w B s F) : ∀ k ∈ F, k < w.heap.size := by
  obtain ⟨lv, wv, hb, hl, hw, _, _, rfl⟩ := h
  intro k hk
  rcases List.mem_cons.1 hk with rfl | hk
  · exact lt_of_block hb
  · rcases List.mem_append.1 hk with hk | hk
    · exact (hl.lt k (mem_blk.1 hk)).2
    · exact (hw.lt k (mem_blk.1 hk)).2
theorem RefIn.keep {w w' : World} {B : Nat} {s : Rv} {F G : List Nat} (h : RefIn w B s F) (hk : Keep w w' G) (hd : ∀ k ∈ F, k ∉ G) : RefIn w' B s F := by
  obtain ⟨lv, wv, hb, hl, hw, hd2, hs, rfl⟩ := h
  exact ⟨lv, wv, (hk.block B (lt_of_block hb) (hd B (List.mem_cons_self ..))).trans hb, own_stays hl hk.block (fun k h => hd k (List.mem_cons_of_mem _ (List.mem_append_left _ (mem_blk.2 h)))), own_stays hw hk.block (fun k h => hd k (List.mem_cons_of_mem _ (List.mem_append_right _ (mem_blk.2 h)))), hd2, hs, rfl⟩
theorem RefIn.mem {w : World} {B : Nat} {s : Rv} {F : List Nat} (h : RefIn w B s F) : B ∈ F := by
  obtain ⟨lv, wv, _, _, _, _, _, rfl⟩ := h
  exact List.mem_cons_self ..

def Rv.new : Rv := ⟨[], [], -1, false⟩
theorem rnew_any (w : World) : Calls Try.prog 11 #[] w fun e w' => e = .returned (.pointer (some ⟨w.heap.size, 0, none⟩)) ∧ RefIn w' w.heap.size Rv.new [w.heap.size] ∧ Below w.heap.size w w' := by
  go_enter Try.func11, Try.ntmps11
  go_wp2_with fail
  go_ret
  refine ⟨rfl, ⟨.slice none 0 0, .slice none 0 0, ?_, World.ownsRow_nil .., World.ownsRow_nil .., ?_, ?_, rfl⟩, ?_⟩
  · exact heap_alloc_new w _
  · intro k hk
    cases hk
  · unfold Rv.ok Rv.new
    simp
  · exact (Below.refl _ w).alloc (Nat.le_refl _) _

def Rv.arm (s : Rv) (n : Int) : Rv := if s.off then s else { s with n := max n (-1) }
theorem rarm_any (w : World) (B : Nat) (s : Rv) (F : List Nat) (n : Int) (h : RefIn w B s F) (hn : -9223372036854775808 ≤ n ∧ n ≤ 9223372036854775807) :
    Calls Try.prog 16 #[.pointer (some ⟨B, 0, none⟩), .int .i64 n] w fun e w' => e = .returned (.tuple #[]) ∧ RLeft w w' B (s.arm n) F := by
  obtain ⟨lv, wv, hb, hl, hw, hd, hk, rfl⟩ := h
  have c3 : w.cell? ⟨B, 3, none⟩ = some (.bool s.off) := tag_cell hb 3 _ rfl
  have c2 : w.cell? ⟨B, 2, none⟩ = some (.int .i64 s.n) := tag_cell hb 2 _ rfl
  have f2 := tag_free hb 2
  have HB := hide hb
  have HL := hide hl
  have HW := hide hw
  have HD := hide hd
  have HK := hide hk
  have HN := hide hn
  clear hb hl hw hd hk hn
  by_cases hoff : s.off = true
  · rw [hoff] at c3
    have HF := hide hoff
    clear hoff
    go_enter Try.func16, Try.ntmps16
    go_wp2_with fail
    go_end0
    have hs : s.arm n = s := by unfold Rv.arm; rw [if_pos HF.out]
    rw [hs]
    exact ⟨rfl, RLeft.refl ⟨lv, wv, HB.out, HL.out, HW.out, HD.out, HK.out, rfl⟩⟩
  · have hf : s.off = false := by cases h : s.off <;> simp_all
    rw [hf] at c3
    have HF := hide hf
    clear hoff hf
    have hs : s.arm n = { s with n := max n (-1) } := by unfold Rv.arm; rw [if_neg (by rw [HF.out]; decide)]
    rw [hs]
    have HX : Hid (∀ m : Int, m = max n (-1) → RLeft w (w.setCell ⟨B, 2, none⟩ (.int .i64 m)) B { s with n := max n (-1) } (B :: (blk lv ++ blk wv))) := hide (by
      rintro m rfl
      refine ⟨_, ⟨lv, wv, ?_, ?_, ?_, HD.out, ?_, rfl⟩, Near.refl _ _, (Keep.refl _ _).set (List.mem_cons_self ..) _⟩
      · exact tok_set HB.out 2 _
      · exact own_set HL.out HB.out (by decide) 2 _
      · exact own_set HW.out HB.out (by decide) 2 _
      · refine ⟨HK.out.1, ?_, ?_⟩
        · show _ ≤ max n (-1)
          omega
        · show max n (-1) ≤ _
          have := HN.out
          omega)
    clear hs
    rcases Int.lt_or_le n (-1) with hm | hm
    · have em : max n (-1) = -1 := by omega
      rw [em] at HX ⊢
      have h1 : ¬ (-1 ≤ n) := by omega
      clear em
      have h2 : (n ≤ -1) := by omega
      go_enter Try.func16, Try.ntmps16
      go_wp2_with fail
      go_end0
      exact ⟨rfl, HX.out _ rfl⟩
    · have em : max n (-1) = n := by omega
      rw [em] at HX ⊢
      have h1 : (-1 ≤ n) := by omega
      clear em
      go_enter Try.func16, Try.ntmps16
      go_wp2_with fail
      go_end0
      exact ⟨rfl, HX.out _ rfl⟩

theorem rgoes_any (w : World) (B : Nat) (s : Rv) (F : List Nat) (h : RefIn w B s F) :
    Calls Try.prog 40 #[.pointer (some ⟨B, 0, none⟩)] w fun e w' => e = .returned (.bool (s.n == 0)) ∧ RLeft w w' B s.goes F := by
  obtain ⟨lv, wv, hb, hl, hw, hd, hk, rfl⟩ := h
  have c3 : w.cell? ⟨B, 3, none⟩ = some (.bool s.off) := tag_cell hb 3 _ rfl
  have c2 : w.cell? ⟨B, 2, none⟩ = some (.int .i64 s.n) := tag_cell hb 2 _ rfl
  have f2 := tag_free hb 2
  have f3 := tag_free hb 3
  have HB := hide hb
  have HL := hide hl
  have HW := hide hw
  have HD := hide hd
  have HK := hide hk
  have h1 := hk.2.1
  have h2 := hk.2.2
  clear hb hl hw hd hk
  rcases Int.lt_trichotomy s.n 0 with h0 | h0 | h0
  · have e1 : (s.n == 0) = false := by simp; omega
    have e2 : decide (0 < s.n) = false := by simp; omega
    have HF := hide h0
    clear h0
    rw [e1]
    go_enter Try.func40, Try.ntmps40
    go_wp2_with fail
    go_ret
    have hg : s.goes = s := by unfold Rv.goes; rw [if_neg (by have := HF.out; omega), if_neg (by have := HF.out; omega)]
    rw [hg]
    exact ⟨rfl, RLeft.refl ⟨lv, wv, HB.out, HL.out, HW.out, HD.out, HK.out, rfl⟩⟩
  · have hg : s.goes = { s with off := true } := by unfold Rv.goes; rw [if_pos h0]
    rw [hg]
    have e1 : (s.n == 0) = true := by rw [h0]; rfl
    clear hg h1 h2 h0
    rw [e1]
    go_enter Try.func40, Try.ntmps40
    go_wp2_with fail
    go_ret
    refine ⟨rfl, _, ⟨lv, wv, ?_, ?_, ?_, HD.out, HK.out, rfl⟩, Near.refl _ _, (Keep.refl _ _).set (List.mem_cons_self ..) _⟩
    · exact tok_set HB.out 3 _
    · exact own_set HL.out HB.out (by decide) 3 _
    · exact own_set HW.out HB.out (by decide) 3 _
  · have hg : s.goes = { s with n := s.n - 1 } := by unfold Rv.goes; rw [if_neg (by omega), if_pos h0]
    have e1 : (s.n == 0) = false := by simp; omega
    have e2 : decide (0 < s.n) = true := by simp; omega
    have e3 : IntKind.i64.wrap (s.n - 1) = s.n - 1 := IntWalk.i64_in _ (by omega)
    rw [hg]
    have HF := hide h0
    clear hg h0
    rw [e1]
    go_enter Try.func40, Try.ntmps40
    go_wp2_with fail
    go_ret
    refine ⟨rfl, _, ⟨lv, wv, ?_, ?_, ?_, HD.out, ?_, rfl⟩, Near.refl _ _, ((Keep.refl w (B :: (blk lv ++ blk wv))).set (p := ⟨B, 2, none⟩) (List.mem_cons_self ..) _)⟩
    · exact tok_set HB.out 2 _
    · exact own_set HL.out HB.out (by decide) 2 _
    · exact own_set HW.out HB.out (by decide) 2 _
    · exact ⟨HK.out.1, by have := HF.out; show _ ≤ s.n - 1; omega, by show s.n - 1 ≤ _; omega⟩
end Go.Proofs.Ytipebinjdicnfaa
