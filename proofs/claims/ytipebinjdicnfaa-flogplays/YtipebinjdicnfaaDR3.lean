/-
  The document's device, walked: Sync, Trim, Append.
-/
import Derived.Test.YtipebinjdicnfaaDR2
namespace Go.Proofs.Ytipebinjdicnfaa
open Go.RowKit

theorem RLeft.then {w w1 w2 : World} {B : Nat} {s' : Rv} {F F1 : List Nat} (hn : Near w F F1) (hk : Keep w w1 F) (h2 : RLeft w1 w2 B s' F1) : RLeft w w2 B s' F := by
  obtain ⟨F2, d2, n2, k2⟩ := h2
  exact ⟨F2, d2, hn.trans hk.size n2, hk.trans hn k2⟩
/-- A new row is put where what lasts stood, and nothing waits. -/
theorem ref_put {w w2 w3 : World} {B : Nat} {s s' : Rv} {F : List Nat} (h : RefIn w B s F) (hb : Below w.heap.size w w2) (v2 : Value) (ho : w2.ownsRow w.heap.size 5 1 v2 s'.la.length (Lib.byteCells s'.la)) (hs : s'.wa = []) (hok : s'.ok)
    (h3 : RB w3 B v2 (.slice none 0 0) s') (hk3 : Keep w2 w3 [B]) : RLeft w w3 B s' F := by
  have hB := h.lt B h.mem
  have hge : ∀ k, v2.ownBlock = some k → w.heap.size ≤ k := fun k hk => (ho.lt k hk).1
  refine ⟨_, ⟨v2, .slice none 0 0, h3, ?_, ?_, ?_, hok, rfl⟩, ?_, ?_⟩
  · refine own_base (own_stays ho hk3.block (fun k hk e => ?_)) (Nat.zero_le _)
    have := hge k hk
    simp at e
    omega
  · rw [hs]
    exact World.ownsRow_nil ..
  · intro k _ h
    cases h
  · intro k hk
    rcases List.mem_cons.1 hk with rfl | hk
    · exact .inl h.mem
    · rcases List.mem_append.1 hk with hk | hk
      · exact .inr (hge k (mem_blk.1 hk))
      · exact absurd (mem_blk.1 hk) (by simp [Value.ownBlock])
  · exact (keep_below hb F).trans (fun k hk => .inl (by simp at hk; rw [hk]; exact h.mem)) hk3
theorem rb_keep {w w2 : World} {B : Nat} {lv wv : Value} {s : Rv} (h : RB w B lv wv s) (hb : Below w.heap.size w w2) : RB w2 B lv wv s := (hb.block B (lt_of_block h)).trans h
theorem own_cut {w' : World} {base : Nat} {p : Option Addr} {c : Nat} {l : List UInt8} (ho : w'.ownsRow base 5 1 (.slice p l.length c) l.length (Lib.byteCells l)) (n : Nat) (hn : n ≤ l.length) : w'.ownsRow base 5 1 (.slice p n c) (l.take n).length (Lib.byteCells (l.take n)) := by
  have hl : (l.take n).length = n := by rw [List.length_take]; omega
  have hcl : (Lib.byteCells (l.take n)).length = n := by rw [byte_len, hl]
  rw [hl]
  obtain ⟨_, ⟨e, e2⟩ | ⟨g, cap, cur, e, h1, h2, h3, h4, h5, h6⟩⟩ := ho
  · refine ⟨by rw [hcl]; omega, .inl ⟨?_, by omega⟩⟩
    injection e with e3 e4 e5
    have : n = 0 := by omega
    subst this
    rw [e3, e5]
  · injection e with e3 e4 e5
    subst e5
    refine ⟨by rw [hcl]; omega, .inr ⟨g, c, cur, by rw [e3], h1, h2, by omega, h4, h5, ?_⟩⟩
    have : Lib.byteCells (l.take n) = (Lib.byteCells l).take n := by simp [Lib.byteCells, List.map_take]
    rw [this, ← h6, List.take_take]
    congr 1
    omega
theorem own_cap {w' : World} {base : Nat} {p : Option Addr} {n c : Nat} {xs : List Value} (ho : w'.ownsRow base 5 1 (.slice p n c) n xs) : n ≤ c := by
  obtain ⟨_, ⟨e, e2⟩ | ⟨g, cap, cur, e, _, _, h2, _⟩⟩ := ho
  · omega
  · injection e with _ _ e
    omega

def Rv.sync (s : Rv) : Rv × Int := if s.off then (s, 11) else if s.n = 0 then (s.goes, 11) else (⟨s.la ++ s.wa, [], s.goes.n, false⟩, 0)
theorem Rv.goes_off (s : Rv) (h : s.n ≠ 0) : s.goes.off = s.off := by
  unfold Rv.goes
  rw [if_neg h]
  split <;> rfl

set_option maxHeartbeats 1000000 in
theorem rsync_any (w : World) (B : Nat) (s : Rv) (F : List Nat) (h : RefIn w B s F) :
    Calls Try.prog 34 #[.pointer (some ⟨B, 0, none⟩)] w fun e w' => e = .returned (.int .i64 s.sync.2) ∧ RLeft w w' B s.sync.1 F := by
  have HG := hide (rgoes_any w B s F h)
  have HD := hide h
  obtain ⟨lv, wv, hb, _⟩ := h
  have c3 : w.cell? ⟨B, 3, none⟩ = some (.bool s.off) := tag_cell hb 3 _ rfl
  clear hb
  cases hoff : s.off with
  | true =>
    rw [hoff] at c3
    have hs : s.sync = (s, 11) := by unfold Rv.sync; rw [if_pos hoff]
    rw [hs]
    clear hs hoff
    go_enter Try.func34, Try.ntmps34
    go_wp2_with fail
    go_ret
    exact ⟨rfl, RLeft.refl HD.out⟩
  | false =>
    rw [hoff] at c3
    by_cases h0 : s.n = 0
    · have hs : s.sync = (s.goes, 11) := by unfold Rv.sync; rw [if_neg (by rw [hoff]; decide), if_pos h0]
      rw [hs]
      have e0 : (s.n == 0) = true := by rw [h0]; rfl
      rw [e0] at HG
      clear hs hoff h0 e0
      go_enter Try.func34, Try.ntmps34
      go_wp2_with fail
      refine HG.out.mono ?_
      rintro e w1 ⟨rfl, hl⟩
      have HL := hide hl
      clear hl
      go_wp2_with fail
      go_ret
      exact ⟨rfl, HL.out⟩
    · have hs : s.sync = (⟨s.la ++ s.wa, [], s.goes.n, false⟩, 0) := by unfold Rv.sync; rw [if_neg (by rw [hoff]; decide), if_neg h0]
      rw [hs]
      have e0 : (s.n == 0) = false := beq_eq_false_iff_ne.2 h0
      rw [e0] at HG
      have HO := hide ((s.goes_off h0).trans hoff)
      clear hs hoff h0 e0
      go_enter Try.func34, Try.ntmps34
      go_wp2_with fail
      refine HG.out.mono ?_
      rintro e w1 ⟨rfl, F1, hd1, hn1, hk1⟩
      have HC := hide (rbytes_any w1 B s.goes F1 hd1)
      have HD1 := hide hd1
      have HN1 := hide hn1
      have HK1 := hide hk1
      clear hd1 hn1 hk1
      go_wp2_with fail
      refine HC.out.mono ?_
      rintro e w2 ⟨v2, rfl, ho2, hb2⟩
      obtain ⟨p2, c2, rfl⟩ := own_len ho2
      obtain ⟨lv1, wv1, hrb, _, _, _, hok, _⟩ := HD1.out
      have hr2 := rb_keep hrb hb2
      have f0 := tag_free hr2 0
      have c0 : w2.cell? ⟨B, 0, none⟩ = some lv1 := tag_cell hr2 0 _ rfl
      have hr3 := tok_set hr2 0 (.slice p2 (s.goes.la ++ s.goes.wa).length c2)
      have f1 := tag_free hr3 1
      have c1 := tag_cell hr3 1 wv1 rfl
      have HX : Hid (RLeft w ((w2.setCell ⟨B, 0, none⟩ (.slice p2 (s.goes.la ++ s.goes.wa).length c2)).setCell ⟨B, 1, none⟩ (.slice none 0 0)) B ⟨s.la ++ s.wa, [], s.goes.n, false⟩ F) := hide (by
        refine RLeft.then HN1.out HK1.out (ref_put HD1.out hb2 (.slice p2 (s.goes.la ++ s.goes.wa).length c2) ?_ rfl ?_ ?_ (((Keep.refl w2 [B]).set (p := ⟨B, 0, none⟩) (by simp) _).set (p := ⟨B, 1, none⟩) (by simp) _))
        · have h := ho2
          rw [s.goes_same.1, s.goes_same.2] at h ⊢
          exact h
        · have h := hok
          unfold Rv.ok at h ⊢
          rw [s.goes_same.1, s.goes_same.2] at h
          refine ⟨?_, h.2⟩
          show (s.la ++ s.wa).length + 0 ≤ _
          rw [List.length_append]
          exact h.1
        · have h := tok_set hr3 1 (.slice none 0 0)
          rw [HO.out] at h
          exact h)
      clear ho2 hb2 hrb hr2 hr3 hok
      obtain ⟨L, hL⟩ : ∃ L, L = (s.goes.la ++ s.goes.wa).length := ⟨_, rfl⟩
      rw [← hL] at f1 c1 HX ⊢
      clear hL
      go_wp2_with fail
      go_ret
      exact ⟨rfl, HX.out⟩
end Go.Proofs.Ytipebinjdicnfaa
