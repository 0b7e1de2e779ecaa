/-
  Package dev, walked: what each call answers, and what it leaves.
-/
import Derived.Test.YtipebinjdicnfaaDV0
namespace Go.Proofs.Ytipebinjdicnfaa
open Go.RowKit

/-- A device: all bytes, how many of the last wait, how many calls are left, whether the power is gone. -/
structure Dv where
  all : List UInt8
  wt : Nat
  lf : Int
  off : Bool
def Dv.ok (s : Dv) : Prop := s.wt ≤ s.all.length ∧ s.all.length ≤ 60000 ∧ -9223372036854775808 ≤ s.lf ∧ s.lf ≤ 9223372036854775807
def Dv.new : Dv := ⟨[], 0, -1, false⟩
def Dv.goes (s : Dv) : Dv := if s.lf = 0 then { s with off := true } else if 0 < s.lf then { s with lf := s.lf - 1 } else s
def Dv.app (s : Dv) (b : List UInt8) : Dv × Int :=
  if s.off then (s, 11) else if 60000 < s.all.length + b.length then (s, 10) else if s.goes.off then (s.goes, 11)
  else (⟨s.all ++ b, s.wt + b.length, s.goes.lf, false⟩, 0)
def Dv.sync (s : Dv) : Dv × Int := if s.off then (s, 11) else if s.goes.off then (s.goes, 11) else (⟨s.all, 0, s.goes.lf, false⟩, 0)
def Dv.trim (s : Dv) (n : Int) : Dv × Int :=
  if s.off then (s, 11) else if n < 0 ∨ (s.all.length : Int) < n then (s, 1) else if s.goes.off then (s.goes, 11)
  else (⟨s.all.take n.toNat, 0, s.goes.lf, false⟩, 0)
def Dv.arm (s : Dv) (n : Int) : Dv := if s.off then s else { s with lf := n }
def Dv.kept (s : Dv) (k : Int) : Nat := s.all.length - s.wt + min k.toNat s.wt
def Dv.restart (s : Dv) (k : Int) : Dv := ⟨s.all.take (s.kept k), 0, -1, false⟩

/-- A device's block. -/
def DB (w : World) (B : Nat) (av : Value) (s : Dv) : Prop := w.heap[B]? = some (.cells #[av, .int .i64 (s.wt : Int), .int .i64 s.lf, .bool s.off] 58 (0, 0))
/-- A device in memory, and its blocks. -/
def DevIn (w : World) (B : Nat) (s : Dv) (F : List Nat) : Prop :=
  ∃ av, DB w B av s ∧ w.ownsRow 0 5 1 av s.all.length (Lib.byteCells s.all) ∧ s.ok ∧ F = B :: blk av
/-- What a call leaves. -/
def Left (w w' : World) (B : Nat) (s : Dv) (F : List Nat) : Prop := ∃ F', DevIn w' B s F' ∧ Near w F F' ∧ Keep w w' F
theorem Left.trans {w w1 w2 : World} {B : Nat} {s s' : Dv} {F : List Nat} (h : Left w w1 B s F) (h2 : ∀ F1, DevIn w1 B s F1 → Left w1 w2 B s' F1) : Left w w2 B s' F := by
  obtain ⟨F1, d1, n1, k1⟩ := h
  obtain ⟨F2, d2, n2, k2⟩ := h2 F1 d1
  exact ⟨F2, d2, n1.trans k1.size n2, k1.trans n1 k2⟩
theorem db_ne {w : World} {B : Nat} {av : Value} {s : Dv} (h : DB w B av s) {u : Value} {n : Nat} {xs : List Value} (ho : w.ownsRow 0 5 1 u n xs) : u.ownBlock ≠ some B := own_apart ho h (by decide)

theorem new_any (w : World) : Calls Try.prog 10 #[] w fun e w' => e = .returned (.pointer (some ⟨w.heap.size, 0, none⟩)) ∧ DevIn w' w.heap.size Dv.new [w.heap.size] ∧ Below w.heap.size w w' := by
  go_enter Try.func10, Try.ntmps10
  go_wp2_with fail
  go_ret
  refine ⟨rfl, ⟨.slice none 0 0, ?_, World.ownsRow_nil .., ?_, rfl⟩, ?_⟩
  · exact heap_alloc_new w _
  · unfold Dv.ok Dv.new
    simp
  · exact (Below.refl _ w).alloc (Nat.le_refl _) _

theorem off_any (w : World) (B : Nat) (s : Dv) (F : List Nat) (h : DevIn w B s F) :
    Calls Try.prog 27 #[.pointer (some ⟨B, 0, none⟩)] w fun e w' => e = .returned (.bool s.off) ∧ w' = w := by
  obtain ⟨av, hb, _⟩ := h
  have c3 : w.cell? ⟨B, 3, none⟩ = some (.bool s.off) := tag_cell hb 3 _ rfl
  clear hb
  go_enter Try.func27, Try.ntmps27
  go_wp2_with fail
  go_ret
  exact ⟨rfl, rfl⟩

theorem arm_any (w : World) (B : Nat) (s : Dv) (F : List Nat) (n : Int) (h : DevIn w B s F) (hn : -9223372036854775808 ≤ n ∧ n ≤ 9223372036854775807) :
    Calls Try.prog 15 #[.pointer (some ⟨B, 0, none⟩), .int .i64 n] w fun e w' => e = .returned (.tuple #[]) ∧ Left w w' B (s.arm n) F := by
  obtain ⟨av, hb, ho, hk, rfl⟩ := h
  have c3 : w.cell? ⟨B, 3, none⟩ = some (.bool s.off) := tag_cell hb 3 _ rfl
  have c2 : w.cell? ⟨B, 2, none⟩ = some (.int .i64 s.lf) := tag_cell hb 2 _ rfl
  have f2 := tag_free hb 2
  have HB := hide hb
  have HO := hide ho
  have HK := hide hk
  have HN := hide hn
  clear hb ho hk hn
  by_cases hoff : s.off = true
  · rw [hoff] at c3
    have HF := hide hoff
    clear hoff
    go_enter Try.func15, Try.ntmps15
    go_wp2_with fail
    go_end0
    refine ⟨rfl, _, ⟨av, ?_, ?_, ?_, rfl⟩, Near.refl _ _, Keep.refl _ _⟩
    all_goals (unfold Dv.arm; rw [if_pos HF.out])
    · exact HB.out
    · exact HO.out
    · exact HK.out
  · have hf : s.off = false := by cases h : s.off <;> simp_all
    rw [hf] at c3
    have HF := hide hf
    clear hoff hf
    go_enter Try.func15, Try.ntmps15
    go_wp2_with fail
    go_end0
    refine ⟨rfl, _, ⟨av, ?_, ?_, ?_, rfl⟩, Near.refl _ _, (Keep.refl _ _).set (List.mem_cons_self ..) _⟩
    all_goals (unfold Dv.arm; rw [if_neg (by rw [HF.out]; decide)])
    · exact tok_set HB.out 2 _
    · exact own_set HO.out HB.out (by decide) 2 _
    · exact ⟨HK.out.1, HK.out.2.1, HN.out⟩

theorem goes_any (w : World) (B : Nat) (s : Dv) (F : List Nat) (h : DevIn w B s F) :
    Calls Try.prog 37 #[.pointer (some ⟨B, 0, none⟩)] w fun e w' => e = .returned (.bool s.goes.off) ∧ Left w w' B s.goes F := by
  obtain ⟨av, hb, ho, hk, rfl⟩ := h
  have c3 : w.cell? ⟨B, 3, none⟩ = some (.bool s.off) := tag_cell hb 3 _ rfl
  have c2 : w.cell? ⟨B, 2, none⟩ = some (.int .i64 s.lf) := tag_cell hb 2 _ rfl
  have f2 := tag_free hb 2
  have f3 := tag_free hb 3
  have HB := hide hb
  have HO := hide ho
  have HK := hide hk
  have h1 := hk.2.2.1
  have h2 := hk.2.2.2
  clear hb ho hk
  rcases Int.lt_trichotomy s.lf 0 with h0 | h0 | h0
  · have e1 : (s.lf == 0) = false := by simp; omega
    have e2 : decide (0 < s.lf) = false := by simp; omega
    have HF := hide h0
    clear h0
    go_enter Try.func37, Try.ntmps37
    go_wp2_with fail
    go_ret
    have hg : s.goes = s := by unfold Dv.goes; rw [if_neg (by have := HF.out; omega), if_neg (by have := HF.out; omega)]
    rw [hg]
    exact ⟨rfl, _, ⟨av, HB.out, HO.out, HK.out, rfl⟩, Near.refl _ _, Keep.refl _ _⟩
  · have hg : s.goes = { s with off := true } := by unfold Dv.goes; rw [if_pos h0]
    rw [h0] at c2
    rw [hg]
    clear hg h0 h1 h2
    go_enter Try.func37, Try.ntmps37
    go_wp2_with fail
    go_ret
    refine ⟨rfl, _, ⟨av, ?_, ?_, ?_, rfl⟩, Near.refl _ _, (Keep.refl _ _).set (List.mem_cons_self ..) _⟩
    · exact tok_set HB.out 3 _
    · exact own_set HO.out HB.out (by decide) 3 _
    · exact HK.out
  · have hg : s.goes = { s with lf := s.lf - 1 } := by unfold Dv.goes; rw [if_neg (by omega), if_pos h0]
    have e1 : (s.lf == 0) = false := by simp; omega
    have e2 : decide (0 < s.lf) = true := by simp; omega
    have e3 : IntKind.i64.wrap (s.lf - 1) = s.lf - 1 := IntWalk.i64_in _ (by omega)
    rw [hg]
    have HF := hide h0
    clear hg h0
    go_enter Try.func37, Try.ntmps37
    go_wp2_with fail
    go_region
    go_wp2_with fail
    go_ret
    refine ⟨rfl, _, ⟨av, ?_, ?_, ?_, rfl⟩, Near.refl _ _, ((Keep.refl w (B :: blk av)).set (p := ⟨B, 2, none⟩) (List.mem_cons_self ..) _).drew⟩
    · exact tok_set HB.out 2 _
    · exact (own_set HO.out HB.out (by decide) 2 _).drew
    · exact ⟨HK.out.1, HK.out.2.1, by have := HF.out; show _ ≤ s.lf - 1; omega, by show s.lf - 1 ≤ _; omega⟩

set_option maxHeartbeats 1000000 in
theorem keep_any (w : World) (B : Nat) (s : Dv) (F : List Nat) (n : Nat) (h : DevIn w B s F) (hn : n ≤ s.all.length) :
    Calls Try.prog 35 #[.pointer (some ⟨B, 0, none⟩), .int .i64 (n : Int)] w fun e w' => e = .returned (.tuple #[]) ∧ Left w w' B { s with all := s.all.take n, wt := 0 } F := by
  obtain ⟨av, hb, ho, hk, rfl⟩ := h
  obtain ⟨p, c, rfl⟩ := own_len ho
  have hc : s.all.length ≤ c := by
    obtain ⟨_, ⟨e, e2⟩ | ⟨g, cap, cur, e, _, _, h2, _⟩⟩ := id ho
    · omega
    · injection e with _ _ e
      omega
  have ht : ∀ (w' : World), w'.ownsRow 0 5 1 (.slice p s.all.length c) s.all.length (Lib.byteCells s.all) → w'.ownsRow 0 5 1 (.slice p n c) (s.all.take n).length (Lib.byteCells (s.all.take n)) := by
    intro w' ho
    have hl : (s.all.take n).length = n := by rw [List.length_take]; omega
    have hcl : (Lib.byteCells (s.all.take n)).length = n := by rw [byte_len, hl]
    rw [hl]
    obtain ⟨_, ⟨e, e2⟩ | ⟨g, cap, cur, e, h1, h2, h3, h4, h5, h6⟩⟩ := ho
    · refine ⟨by rw [hcl]; omega, .inl ⟨?_, by omega⟩⟩
      injection e with e3 e4 e5
      have : n = 0 := by omega
      subst this
      rw [e3, e5]
    · injection e with e3 e4 e5
      subst e5
      refine ⟨by rw [hcl]; omega, .inr ⟨g, c, cur, by rw [e3], h1, h2, by omega, h4, h5, ?_⟩⟩
      have : Lib.byteCells (s.all.take n) = (Lib.byteCells s.all).take n := by simp [Lib.byteCells, List.map_take]
      rw [this, ← h6, List.take_take]
      congr 1
      omega
  have c0 : w.cell? ⟨B, 0, none⟩ = some (.slice p s.all.length c) := tag_cell hb 0 _ rfl
  have c1 : w.cell? ⟨B, 1, none⟩ = some (.int .i64 (s.wt : Int)) := tag_cell hb 1 _ rfl
  have f0 := tag_free hb 0
  have f1 := tag_free hb 1
  have HB := hide hb
  have HO := hide ho
  have HK := hide hk
  have HT := hide ht
  clear hb ho hk ht
  go_enter Try.func35, Try.ntmps35
  go_wp2_with fail
  go_end0
  refine ⟨rfl, _, ⟨.slice p n c, ?_, ?_, ?_, rfl⟩, ?_, ((Keep.refl w _).set (p := ⟨B, 0, none⟩) (List.mem_cons_self ..) _).set (p := ⟨B, 1, none⟩) (List.mem_cons_self ..) _⟩
  · exact tok_set (tok_set HB.out 0 _) 1 _
  · exact HT.out _ (own_set (own_set HO.out HB.out (by decide) 0 _) (tok_set HB.out 0 _) (by decide) 1 _)
  · refine ⟨Nat.zero_le _, ?_, HK.out.2.2⟩
    have := HK.out.2.1
    show (s.all.take n).length ≤ _
    rw [List.length_take]
    omega
  · have : blk (.slice p n c) = blk (.slice p s.all.length c) := by cases p <;> rfl
    rw [this]
    exact Near.refl _ _
end Go.Proofs.Ytipebinjdicnfaa
