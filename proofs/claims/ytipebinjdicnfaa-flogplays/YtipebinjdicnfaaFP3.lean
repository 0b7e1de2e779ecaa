/-
  Both logs, side by side.
-/
import Derived.Test.YtipebinjdicnfaaFR3
import Derived.Test.YtipebinjdicnfaaLBytes
namespace Go.Proofs.Ytipebinjdicnfaa
open Go.RowKit

/-- What calls of the devices leave of all else. -/
structure Oth (w w' : World) (base : Nat) : Prop where
  below : Below base w w'
  cells : ∀ (k : Nat) (cs : Array Value) (t : TypeId) (fz : Nat × Nat), w.heap[k]? = some (.cells cs t fz) → t ≠ 5 → t ≠ 58 → t ≠ 40 → w'.heap[k]? = some (.cells cs t fz)
theorem Oth.trans {w w1 w2 : World} {base : Nat} (h : Oth w w1 base) (h2 : Oth w1 w2 base) : Oth w w2 base := ⟨h.below.trans h2.below, fun k cs t fz a b c d => h2.cells k cs t fz (h.cells k cs t fz a b c d) b c d⟩
theorem Oth.of {w w' : World} {base : Nat} (hb : Below w.heap.size w w') (h : base ≤ w.heap.size) : Oth w w' base := ⟨hb.mono h, fun _ _ _ _ a _ _ _ => (hb.block _ (lt_of_block a)).trans a⟩
theorem Oth.str {w w' : World} {base b : Nat} {v : Value} {n : Nat} {xs : List Value} (h : Oth w w' base) (ho : w.ownsRow b 9 1 v n xs) : w'.ownsRow b 9 1 v n xs := by
  obtain ⟨h1, h2 | ⟨g, cap, cur, h3, h4, h5, h6⟩⟩ := ho
  · exact ⟨h1, .inl h2⟩
  · exact ⟨h1, .inr ⟨g, cap, cur, h3, h4, h.cells _ _ _ _ h5 (by decide) (by decide) (by decide), h6⟩⟩
theorem Oth.log {w w' : World} {base L B : Nat} (h : Oth w w' base) (hl : LogB w L B) : LogB w' L B := h.cells _ _ _ _ hl (by decide) (by decide) (by decide)
theorem dev_out {w : World} {B : Nat} {s : Dv} {F : List Nat} (h : DevIn w B s F) {k : Nat} {cs : Array Value} {t : TypeId} {fz : Nat × Nat} (hk : w.heap[k]? = some (.cells cs t fz)) (h1 : t ≠ 5) (h2 : t ≠ 58) : k ∉ F := by
  obtain ⟨av, hb, ho, _, rfl⟩ := h
  intro hm
  rcases List.mem_cons.1 hm with rfl | hm
  · unfold DB at hb
    rw [hk] at hb
    simp at hb
    exact h2 hb.2.1
  · exact own_apart ho hk (fun e => h1 e.symm) (mem_blk.1 hm)
theorem ref_out {w : World} {B : Nat} {s : Rv} {F : List Nat} (h : RefIn w B s F) {k : Nat} {cs : Array Value} {t : TypeId} {fz : Nat × Nat} (hk : w.heap[k]? = some (.cells cs t fz)) (h1 : t ≠ 5) (h2 : t ≠ 40) : k ∉ F := by
  obtain ⟨lv, wv, hb, hl, hw, _, _, rfl⟩ := h
  intro hm
  rcases List.mem_cons.1 hm with rfl | hm
  · unfold RB at hb
    rw [hk] at hb
    simp at hb
    exact h2 hb.2.1
  · rcases List.mem_append.1 hm with hm | hm
    · exact own_apart hl hk (fun e => h1 e.symm) (mem_blk.1 hm)
    · exact own_apart hw hk (fun e => h1 e.symm) (mem_blk.1 hm)
theorem duo_d {w : World} {f : Nat} {args : Array Value} {base : Nat} {B R : Nat} {s : Dv} {r : Rv} {P : Ending → World → Dv → Prop} (h : Two w base [] B R s r)
    (hc : ∀ F, DevIn w B s F → (∀ k ∈ F, base ≤ k) → Calls Try.prog f args w fun e w' => ∃ s', P e w' s' ∧ Left w w' B s' F) : Calls Try.prog f args w fun e w' => ∃ s', P e w' s' ∧ Two w' base [] B R s' r ∧ Oth w w' base := by
  obtain ⟨F, G, hd, hr, hF, hG, hX, hb⟩ := id h
  refine (hc F hd (fun k hk => (hF k hk).1)).mono fun e w' ⟨s', h1, h2⟩ => ?_
  obtain ⟨F', hd', hn, hk⟩ := h2
  refine ⟨s', h1, ⟨F', G, hd', hr.keep hk (fun k h1 h2 => (hF k h2).2.1 h1), fun k h1 => ?_, hG, by simp, Nat.le_trans hb hk.size⟩, hk.below (fun k h1 => (hF k h1).1) hb, fun k cs t fz a b c d => (hk.block k (lt_of_block a) (dev_out hd a b c)).trans a⟩
  rcases hn k h1 with h2 | h2
  · exact hF k h2
  · exact ⟨by omega, fun h3 => by have := hr.lt k h3; omega, by simp⟩
theorem duo_r {w : World} {f : Nat} {args : Array Value} {base : Nat} {B R : Nat} {s : Dv} {r : Rv} {P : Ending → World → Rv → Prop} (h : Two w base [] B R s r)
    (hc : ∀ G, RefIn w R r G → (∀ k ∈ G, base ≤ k) → Calls Try.prog f args w fun e w' => ∃ r', P e w' r' ∧ RLeft w w' R r' G) : Calls Try.prog f args w fun e w' => ∃ r', P e w' r' ∧ Two w' base [] B R s r' ∧ Oth w w' base := by
  obtain ⟨F, G, hd, hr, hF, hG, hX, hb⟩ := id h
  refine (hc G hr (fun k hk => (hG k hk).1)).mono fun e w' ⟨r', h1, h2⟩ => ?_
  obtain ⟨G', hr', hn, hk⟩ := h2
  refine ⟨r', h1, ⟨F, G', hd.keep hk (fun k h1 h2 => (hF k h1).2.1 h2), hr', fun k h1 => ⟨(hF k h1).1, fun h3 => ?_, by simp⟩, fun k h1 => ⟨?_, by simp⟩, by simp, Nat.le_trans hb hk.size⟩, hk.below (fun k h1 => (hG k h1).1) hb, fun k cs t fz a b c d => (hk.block k (lt_of_block a) (ref_out hr a b d)).trans a⟩
  · rcases hn k h3 with h2 | h2
    · exact (hF k h1).2.1 h2
    · have := hd.lt k h1
      omega
  · rcases hn k h1 with h2 | h2
    · exact (hG k h2).1
    · omega
section
variable {w : World} {base : Nat} {B R : Nat} {s : Dv} {r : Rv}
theorem gput_d (h : Two w base [] B R s r) (L : Nat) (hl : LogB w L B) (t : ByteArray) (x : Int) (hx : (s.put t).2 = x) :
    Calls Try.prog 13 #[.pointer (some ⟨L, 0, none⟩), .string t] w fun e w' => e = .returned (.int .i64 x) ∧ Two w' base [] B R (s.put t).1 r ∧ Oth w w' base := by
  subst hx
  exact (duo_d (P := fun e _ s' => e = .returned (.int .i64 (s.put t).2) ∧ s' = (s.put t).1) h (fun F hd _ => (put_any w L B s F t hl hd).mono fun e w' ⟨h1, h2⟩ => ⟨_, ⟨h1, rfl⟩, h2⟩)).mono fun e w' ⟨s', ⟨h1, h2⟩, h3⟩ => ⟨h1, by rw [← h2]; exact h3⟩
theorem gput_r (h : Two w base [] B R s r) (t : ByteArray) (x : Int) (hx : (r.put t).2 = x) :
    Calls Try.prog 14 #[.pointer (some ⟨R, 0, none⟩), .string t] w fun e w' => e = .returned (.int .i64 x) ∧ Two w' base [] B R s (r.put t).1 ∧ Oth w w' base := by
  subst hx
  exact (duo_r (P := fun e _ s' => e = .returned (.int .i64 (r.put t).2) ∧ s' = (r.put t).1) h (fun F hd _ => (rput_any w R r F t hd).mono fun e w' ⟨h1, h2⟩ => ⟨_, ⟨h1, rfl⟩, h2⟩)).mono fun e w' ⟨s', ⟨h1, h2⟩, h3⟩ => ⟨h1, by rw [← h2]; exact h3⟩
theorem garm_d (h : Two w base [] B R s r) (n : Int) (hn : -9223372036854775808 ≤ n ∧ n ≤ 9223372036854775807) :
    Calls Try.prog 15 #[.pointer (some ⟨B, 0, none⟩), .int .i64 n] w fun e w' => e = .returned (.tuple #[]) ∧ Two w' base [] B R (s.arm n) r ∧ Oth w w' base :=
  (duo_d (P := fun e _ s' => e = .returned (.tuple #[]) ∧ s' = s.arm n) h (fun F hd _ => (arm_any w B s F n hd hn).mono fun e w' ⟨h1, h2⟩ => ⟨_, ⟨h1, rfl⟩, h2⟩)).mono fun e w' ⟨s', ⟨h1, h2⟩, h3⟩ => ⟨h1, by rw [← h2]; exact h3⟩
theorem garm_r (h : Two w base [] B R s r) (n : Int) (hn : -9223372036854775808 ≤ n ∧ n ≤ 9223372036854775807) :
    Calls Try.prog 16 #[.pointer (some ⟨R, 0, none⟩), .int .i64 n] w fun e w' => e = .returned (.tuple #[]) ∧ Two w' base [] B R s (r.arm n) ∧ Oth w w' base :=
  (duo_r (P := fun e _ s' => e = .returned (.tuple #[]) ∧ s' = r.arm n) h (fun F hd _ => (rarm_any w R r F n hd hn).mono fun e w' ⟨h1, h2⟩ => ⟨_, ⟨h1, rfl⟩, h2⟩)).mono fun e w' ⟨s', ⟨h1, h2⟩, h3⟩ => ⟨h1, by rw [← h2]; exact h3⟩
theorem grestart_d (h : Two w base [] B R s r) (n : Int) (hn : -9223372036854775808 ≤ n ∧ n ≤ 9223372036854775807) :
    Calls Try.prog 17 #[.pointer (some ⟨B, 0, none⟩), .int .i64 n] w fun e w' => e = .returned (.tuple #[]) ∧ Two w' base [] B R (s.restart n) r ∧ Oth w w' base :=
  (duo_d (P := fun e _ s' => e = .returned (.tuple #[]) ∧ s' = s.restart n) h (fun F hd _ => (restart_any w B s F n hd hn).mono fun e w' ⟨h1, h2⟩ => ⟨_, ⟨h1, rfl⟩, h2⟩)).mono fun e w' ⟨s', ⟨h1, h2⟩, h3⟩ => ⟨h1, by rw [← h2]; exact h3⟩
theorem grestart_r (h : Two w base [] B R s r) (n : Int) (hn : -9223372036854775808 ≤ n ∧ n ≤ 9223372036854775807) :
    Calls Try.prog 18 #[.pointer (some ⟨R, 0, none⟩), .int .i64 n] w fun e w' => e = .returned (.tuple #[]) ∧ Two w' base [] B R s (r.restart n) ∧ Oth w w' base :=
  (duo_r (P := fun e _ s' => e = .returned (.tuple #[]) ∧ s' = r.restart n) h (fun F hd _ => (rrestart_any w R r F n hd hn).mono fun e w' ⟨h1, h2⟩ => ⟨_, ⟨h1, rfl⟩, h2⟩)).mono fun e w' ⟨s', ⟨h1, h2⟩, h3⟩ => ⟨h1, by rw [← h2]; exact h3⟩
theorem gopen_d (h : Two w base [] B R s r) :
    Calls Try.prog 12 #[.pointer (some ⟨B, 0, none⟩)] w fun e w' => ∃ (s' : Dv) (l : List ByteArray) (x : Int) (p : Option Addr) (vp : Option Addr) (vc : Nat), Opn s l s' x ∧ e = .returned (.tuple #[.pointer p, .slice vp l.length vc, .int .i64 x]) ∧ w'.ownsRow w.heap.size 9 1 (.slice vp l.length vc) l.length (strV l) ∧ (if x = 0 then ∃ L, p = some ⟨L, 0, none⟩ ∧ LogB w' L B else p = none) ∧ Two w' base [] B R s' r ∧ Oth w w' base :=
  (duo_d (P := fun e w' s' => ∃ (l : List ByteArray) (x : Int) (p : Option Addr) (vp : Option Addr) (vc : Nat), Opn s l s' x ∧ e = .returned (.tuple #[.pointer p, .slice vp l.length vc, .int .i64 x]) ∧ w'.ownsRow w.heap.size 9 1 (.slice vp l.length vc) l.length (strV l) ∧ (if x = 0 then ∃ L, p = some ⟨L, 0, none⟩ ∧ LogB w' L B else p = none)) h (fun F hd _ => (open_any w B s F hd).mono fun e w' ⟨l, s', x, p, v, h1, h2, h3, h4, h5⟩ => by
    obtain ⟨vp, vc, rfl⟩ := own_len h3
    refine ⟨s', ⟨l, x, p, vp, vc, h1, h2, h3, ?_⟩, h4⟩
    by_cases hx : x = 0
    · rw [if_pos hx] at h5 ⊢
      obtain ⟨L, a, b, _⟩ := h5
      exact ⟨L, a, b⟩
    · rw [if_neg hx] at h5 ⊢
      exact h5)).mono fun e w' ⟨s', ⟨l, x, p, vp, vc, h1, h2, h3, h4⟩, h5⟩ => ⟨s', l, x, p, vp, vc, h1, h2, h3, h4, h5⟩
theorem gopen_r (h : Two w base [] B R s r) :
    Calls Try.prog 19 #[.pointer (some ⟨R, 0, none⟩)] w fun e w' => ∃ (r' : Rv) (l : List ByteArray) (x : Int) (vp : Option Addr) (vc : Nat), ROpn r l r' x ∧ e = .returned (.tuple #[.slice vp l.length vc, .int .i64 x]) ∧ w'.ownsRow w.heap.size 9 1 (.slice vp l.length vc) l.length (strV l) ∧ Two w' base [] B R s r' ∧ Oth w w' base :=
  (duo_r (P := fun e w' r' => ∃ (l : List ByteArray) (x : Int) (vp : Option Addr) (vc : Nat), ROpn r l r' x ∧ e = .returned (.tuple #[.slice vp l.length vc, .int .i64 x]) ∧ w'.ownsRow w.heap.size 9 1 (.slice vp l.length vc) l.length (strV l)) h (fun F hd _ => (ropen_any w R r F hd).mono fun e w' ⟨l, s', x, v, h1, h2, h3, h4⟩ => by
    obtain ⟨vp, vc, rfl⟩ := own_len h3
    exact ⟨s', ⟨l, x, vp, vc, h1, h2, h3⟩, h4⟩)).mono fun e w' ⟨r', ⟨l, x, vp, vc, h1, h2, h3⟩, h5⟩ => ⟨r', l, x, vp, vc, h1, h2, h3, h5⟩
theorem goff_r (h : Two w base [] B R s r) : w.cell? ⟨R, 3, none⟩ = some (.bool r.off) := by
  obtain ⟨F, G, _, ⟨lv, wv, hb, _⟩, _⟩ := h
  exact tag_cell hb 3 _ rfl
theorem gbytes_d (h : Two w base [] B R s r) :
    Calls Try.prog 21 #[.pointer (some ⟨B, 0, none⟩)] w fun e w' => ∃ v, e = .returned v ∧ Below w.heap.size w w' ∧ ∀ wx, Below w'.heap.size w' wx → (convert 38 9 v).run Try.prog wx = .ok (.string ⟨s.all.toArray⟩) wx := by
  obtain ⟨F, G, h1, _⟩ := h
  exact (bytes_any w B s F h1).mono fun e w' ⟨e1, e2⟩ => ⟨_, e1, e2.2, fun wx hb => ((e2.bytes _).below hb).conv⟩
theorem gbytes_r (h : Two w base [] B R s r) :
    Calls Try.prog 22 #[.pointer (some ⟨R, 0, none⟩)] w fun e w' => ∃ (vp : Option Addr) (vc : Nat), e = .returned (.slice vp (r.la ++ r.wa).length vc) ∧ Below w.heap.size w w' ∧ ∀ wx, Below w'.heap.size w' wx → (convert 38 9 (.slice vp (r.la ++ r.wa).length vc)).run Try.prog wx = .ok (.string ⟨(r.la ++ r.wa).toArray⟩) wx := by
  obtain ⟨F, G, _, h1, _⟩ := h
  exact (rbytes_any w R r G h1).mono fun e w' ⟨v, e1, e2, e3⟩ => by
    obtain ⟨vp, vc, rfl⟩ := own_len e2
    exact ⟨vp, vc, e1, e3, fun wx hb => ((own_bytes e2).below hb).conv⟩
theorem gsize (h : Two w base [] B R s r) (L : Nat) (hl : LogB w L B) :
    Calls Try.prog 23 #[.pointer (some ⟨L, 0, none⟩)] w fun e w' => e = .returned (.int .i64 (s.all.length : Int)) ∧ Below w.heap.size w w' := by
  obtain ⟨F, G, h1, _⟩ := h
  exact size_any w L B s F hl h1
end
end Go.Proofs.Ytipebinjdicnfaa
