/-
  Package flog, walked: Open, Append, Size.
-/
import Derived.Test.YtipebinjdicnfaaFW2
import Derived.Deep.CutBlock
namespace Go.Proofs.Ytipebinjdicnfaa
open Go.RowKit

/-- A log of the device at B. -/
def LogB (w : World) (L B : Nat) : Prop := w.heap[L]? = some (.cells #[.pointer (some ⟨B, 0, none⟩)] 66 (0, 0))
/-- A text more. -/
def Dv.put (s : Dv) (t : ByteArray) : Dv × Int :=
  if 20000 < t.size then (s, 4) else if (s.app (fr t)).2 ≠ 0 then s.app (fr t) else (s.app (fr t)).1.sync
/-- What opening tells, and leaves. -/
def Opn (s : Dv) (l : List ByteArray) (s' : Dv) (e : Int) : Prop :=
  if s.off then l = [] ∧ s' = s ∧ e = 11 else ∃ l0 r, Rd s.all l0 r ∧ if r = [] then l = l0 ∧ s' = s ∧ e = 0 else (s.trim ((s.all.length : Int) - (r.length : Int))).1 = s' ∧ (s.trim ((s.all.length : Int) - (r.length : Int))).2 = e ∧ l = if e = 0 then l0 else []
theorem Opn.one {s : Dv} {l l' : List ByteArray} {s1 s2 : Dv} {e e' : Int} (h : Opn s l s1 e) (h' : Opn s l' s2 e') : l = l' ∧ s1 = s2 ∧ e = e' := by
  unfold Opn at h h'
  by_cases ho : s.off = true
  · rw [if_pos ho] at h h'
    obtain ⟨rfl, rfl, rfl⟩ := h
    obtain ⟨rfl, rfl, rfl⟩ := h'
    exact ⟨rfl, rfl, rfl⟩
  · rw [if_neg ho] at h h'
    obtain ⟨l0, r, hr, h⟩ := h
    obtain ⟨l1, r1, hr1, h'⟩ := h'
    obtain ⟨rfl, rfl⟩ := hr.one hr1
    by_cases hn : r = []
    · rw [if_pos hn] at h h'
      obtain ⟨rfl, rfl, rfl⟩ := h
      obtain ⟨rfl, rfl, rfl⟩ := h'
      exact ⟨rfl, rfl, rfl⟩
    · rw [if_neg hn] at h h'
      obtain ⟨rfl, rfl, rfl⟩ := h
      obtain ⟨rfl, rfl, rfl⟩ := h'
      exact ⟨rfl, rfl, rfl⟩
theorem opn_off {s : Dv} (h : s.off = true) : Opn s [] s 11 := by unfold Opn; rw [if_pos h]; exact ⟨rfl, rfl, rfl⟩
theorem opn_all {s : Dv} {l : List ByteArray} (h : s.off = false) (hr : Rd s.all l []) : Opn s l s 0 := by unfold Opn; rw [if_neg (by rw [h]; decide)]; exact ⟨l, [], hr, by rw [if_pos rfl]; exact ⟨rfl, rfl, rfl⟩⟩

theorem log_out {w : World} {L B' B : Nat} {s : Dv} {F : List Nat} (h : LogB w L B') (hd : DevIn w B s F) : L ∉ F := by
  obtain ⟨av, hb, ho, _, rfl⟩ := hd
  intro hm
  rcases List.mem_cons.1 hm with rfl | hm
  · unfold LogB at h
    unfold DB at hb
    rw [h] at hb
    simp at hb
  · exact own_apart ho h (by decide) (mem_blk.1 hm)
theorem log_left {w w' : World} {L B' B : Nat} {s s' : Dv} {F : List Nat} (h : LogB w L B') (hd : DevIn w B s F) (hl : Left w w' B s' F) : LogB w' L B' := by
  obtain ⟨_, _, _, hk⟩ := hl
  exact (hk.block L (lt_of_block h) (log_out h hd)).trans h
theorem log_below {w w' : World} {L B : Nat} (h : LogB w L B) (hb : Below w.heap.size w w') : LogB w' L B := (hb.block L (lt_of_block h)).trans h
theorem str_out {w : World} {b B : Nat} {s : Dv} {F : List Nat} {v : Value} {n : Nat} {xs : List Value} (h : w.ownsRow b 9 1 v n xs) (hd : DevIn w B s F) : ∀ k, v.ownBlock = some k → k ∉ F := by
  obtain ⟨av, hb, ho, _, rfl⟩ := hd
  intro k hk hm
  rcases List.mem_cons.1 hm with rfl | hm
  · exact own_apart h hb (by decide) hk
  · rcases own_two h ho (by decide) with e | e
    · rw [e] at hk
      cases hk
    · exact e (by rw [hk, mem_blk.1 hm])
theorem str_left {w w' : World} {b B : Nat} {s s' : Dv} {F : List Nat} {v : Value} {n : Nat} {xs : List Value} (h : w.ownsRow b 9 1 v n xs) (hd : DevIn w B s F) (hl : Left w w' B s' F) : w'.ownsRow b 9 1 v n xs := by
  obtain ⟨_, _, _, hk⟩ := hl
  exact own_stays h hk.block (str_out h hd)
theorem Left.from {w w1 w2 : World} {B : Nat} {s' : Dv} {F : List Nat} (hb : Below w.heap.size w w1) (h : Left w1 w2 B s' F) : Left w w2 B s' F := by
  obtain ⟨F', h1, h2, h3⟩ := h
  exact ⟨F', h1, fun k hk => (h2 k hk).imp id (fun e => Nat.le_trans hb.size e), (keep_below hb F).trans (Near.refl _ _) h3⟩
theorem Left.on {w w1 w2 : World} {B : Nat} {s' : Dv} {F : List Nat} (h : Left w w1 B s' F) (hb : Below w1.heap.size w1 w2) : Left w w2 B s' F := by
  obtain ⟨F', h1, h2, h3⟩ := h
  exact ⟨F', h1.keep (keep_below hb []) (by simp), h2, h3.trans h2 (keep_below hb F')⟩

set_option maxHeartbeats 1000000 in
theorem size_any (w : World) (L B : Nat) (s : Dv) (F : List Nat) (hl : LogB w L B) (h : DevIn w B s F) :
    Calls Try.prog 23 #[.pointer (some ⟨L, 0, none⟩)] w fun e w' => e = .returned (.int .i64 (s.all.length : Int)) ∧ Below w.heap.size w w' := by
  have c0 : w.cell? ⟨L, 0, none⟩ = some (.pointer (some ⟨B, 0, none⟩)) := tag_cell hl 0 _ rfl
  have HC := hide (bytes_any w B s F h)
  clear hl h
  go_enter Try.func23, Try.ntmps23
  go_wp2_with fail
  refine HC.out.mono ?_
  rintro e w1 ⟨rfl, -, hb1⟩
  have HB := hide hb1
  clear hb1
  go_wp2_with fail
  go_ret
  exact ⟨rfl, HB.out⟩

set_option maxHeartbeats 4000000 in
theorem put_any (w : World) (L B : Nat) (s : Dv) (F : List Nat) (t : ByteArray) (hl : LogB w L B) (h : DevIn w B s F) :
    Calls Try.prog 13 #[.pointer (some ⟨L, 0, none⟩), .string t] w fun e w' => e = .returned (.int .i64 (s.put t).2) ∧ Left w w' B (s.put t).1 F := by
  by_cases ht : 20000 < t.size
  · have hd : decide ((20000 : Int) < (t.size : Int)) = true := decide_eq_true (by omega)
    have HS : Hid (s.put t = (s, 4)) := hide (by unfold Dv.put; rw [if_pos ht])
    have HD := hide h
    clear ht h hl
    go_enter Try.func13, Try.ntmps13
    go_wp2_with fail
    go_ret
    rw [HS.out]
    exact ⟨rfl, Left.refl HD.out⟩
  · have hd : decide ((20000 : Int) < (t.size : Int)) = false := decide_eq_false (by omega)
    have c0 : w.cell? ⟨L, 0, none⟩ = some (.pointer (some ⟨B, 0, none⟩)) := tag_cell hl 0 _ rfl
    have HL := hide hl
    have HD := hide h
    have HT : Hid (t.size ≤ 20000) := hide (by omega)
    have HLB : Hid (L < w.heap.size) := hide (lt_of_block hl)
    have HS : Hid (s.put t = if (s.app (fr t)).2 ≠ 0 then s.app (fr t) else (s.app (fr t)).1.sync) := hide (by unfold Dv.put; rw [if_neg ht])
    clear hl h ht
    go_enter Try.func13, Try.ntmps13
    go_upto_region 3 with fail
    go_cut [5] from 6 to 23 (fun v5 wx => v5 = .int .i64 (s.app (fr t)).2 ∧ Hid (Left w wx B (s.app (fr t)).1 F))
    case first =>
      refine wp_region_held_drew (S := (fun wx => wx.cell? ⟨L, 0, none⟩ = some (.pointer (some ⟨B, 0, none⟩)))) (by kernel_rfl) (c0) (fun hHeld => ?_)
      refine wpAnyH_at (i := 0) (v := ?vf0) (a1 := ?xf0) rfl (by kernel_rfl) (by kernel_rfl) (by kernel_rfl) (fun _ _ _ h => h) (Or.inl ⟨by rfl, ?yf0⟩) (by assumption) ?hf0 ?zf0
      case yf0 => (intro w hSw; (try dsimp only at hSw); go_simp; try (with_reducible rfl))
      case hf0 => (go_simp; exact rfl)
      case zf0 =>
      refine wpAnyH_at (i := 1) (v := ?vf1) (a1 := ?xf1) rfl (by kernel_rfl) (by kernel_rfl) (by kernel_rfl) (fun _ _ _ h => h) (Or.inl ⟨by rfl, ?yf1⟩) (by assumption) ?hf1 ?zf1
      case yf1 => (intro w hSw; (try dsimp only at hSw); go_simp; try (with_reducible rfl))
      case hf1 => (go_simp; exact rfl)
      case zf1 =>
      refine wpAnyH_at (i := 2) (v := ?vf2) (a1 := ?xf2) rfl (by kernel_rfl) (by kernel_rfl) (by kernel_rfl) (fun _ _ _ h => h) (Or.inl ⟨by rfl, ?yf2⟩) (by assumption) ?hf2 ?zf2
      case yf2 => (intro w hSw; (try dsimp only at hSw); go_simp; try (with_reducible rfl))
      case hf2 => (go_simp; exact rfl)
      case zf2 =>
      refine wpAnyH_at (i := 3) (v := ?vf3) (a1 := ?xf3) rfl (by kernel_rfl) (by kernel_rfl) (by kernel_rfl) (fun _ _ _ h => h) (Or.inl ⟨by rfl, ?yf3⟩) (by assumption) ?hf3 ?zf3
      case yf3 => (intro w hSw; (try dsimp only at hSw); go_simp; try (with_reducible rfl))
      case hf3 => (go_simp; exact rfl)
      case zf3 =>
      refine wpAnyH_at (i := 4) (v := ?vf4) (a1 := ?xf4) rfl (by kernel_rfl) (by kernel_rfl) (by kernel_rfl) (fun _ _ _ h => h) (Or.inl ⟨by rfl, ?yf4⟩) (by assumption) ?hf4 ?zf4
      case yf4 => (intro w hSw; (try dsimp only at hSw); go_simp; try (with_reducible rfl))
      case hf4 => (go_simp; exact rfl)
      case zf4 =>
      refine wpAnyH_ready (rs := [5]) (by kernel_rfl) (by simp) ?_
      refine AllReadyH.cons rfl (fun K hK => ?_) AllReadyH.nil
      go_simp
      refine (frame_any w.drew t HT.out).mono ?_
      rintro e w2 ⟨⟨v, rfl, ho2⟩, hb2⟩
      have HB2 : Hid (Below w.heap.size w w2) := hide (bel2 (bel_one w) hb2)
      have HO2 := hide ho2
      clear ho2 hb2
      try go_wp2_with fail
      refine hK.out _ _ (by first | exact tag_cell HLG3.out 0 _ rfl | exact cell_keep c0 HB2.out) (fun hHeld2 => ?_)
      clear hK K hHeld
      have hHeld := hHeld2
      clear hHeld2
      refine wpAnyH_ready (rs := [6]) (by kernel_rfl) (by simp) ?_
      refine AllReadyH.cons rfl (fun K hK => ?_) AllReadyH.nil
      go_simp
      refine (append_any w2 B s F v (fr t) (HD.out.keep (keep_below HB2.out []) (by simp)) (own_bytes (own_base HO2.out (Nat.zero_le _))) (fun _ k hk hF => ?_) (by rw [fr_len]; have := HT.out; omega)).mono ?_
      · have h1 := (HO2.out.lt k hk).1
        have h2 := HD.out.lt k hF
        have e : w.drew.heap.size = w.heap.size := rfl
        omega
      rintro e w3 ⟨rfl, hl3⟩
      have HL3 := hide hl3
      have HLG3 : Hid (LogB w3 L B) := hide (log_left (log_below HL.out HB2.out) (HD.out.keep (keep_below HB2.out []) (by simp)) hl3)
      clear hl3
      try go_wp2_with fail
      refine hK.out _ _ (by first | exact tag_cell HLG3.out 0 _ rfl | exact cell_keep c0 HB2.out) (fun hHeld2 => ?_)
      clear hK K hHeld
      have hHeld := hHeld2
      clear hHeld2
      refine wpAnyH_at (i := 7) (v := ?vf7) (a1 := ?xf7) rfl (by kernel_rfl) (by kernel_rfl) (by kernel_rfl) (fun _ _ _ h => h) (Or.inl ⟨by rfl, ?yf7⟩) (by assumption) ?hf7 ?zf7
      case yf7 => (intro w hSw; (try dsimp only at hSw); go_simp; try (with_reducible rfl))
      case hf7 => (go_simp; exact rfl)
      case zf7 =>
      refine wpAnyH_done (by kernel_rfl) ?_ _
      go_wp2_with fail
      go_meet
      exact ⟨rfl, hide (HL3.out.from HB2.out)⟩
    case rest =>
    obtain ⟨rfl, HLF⟩ := hcut
    obtain ⟨s1, hs1⟩ : ∃ s1, s1 = s.app (fr t) := ⟨_, rfl⟩
    rw [← hs1] at HS HLF ⊢
    clear hs1
    obtain ⟨s1, e1⟩ := s1
    simp only at HS HLF ⊢
    by_cases he : e1 = 0
    · have hd0 : (e1 != 0) = false := by simpa using he
      have HLG : Hid (LogB wc L B) := hide (log_left HL.out HD.out HLF.out)
      have c1 : wc.cell? ⟨L, 0, none⟩ = some (.pointer (some ⟨B, 0, none⟩)) := tag_cell HLG.out 0 _ rfl
      have HE := hide he
      clear he c0
      go_wp2_with fail
      obtain ⟨F1, d1, n1, k1⟩ := HLF.out
      refine (sync_any wc B s1 F1 d1).mono ?_
      rintro e w4 ⟨rfl, hl4⟩
      have HL4 : Hid (Left w w4 B s1.sync.1 F) := hide (by
        obtain ⟨F2, d2, n2, k2⟩ := hl4
        exact ⟨F2, d2, n1.trans k1.size n2, k1.trans n1 k2⟩)
      clear hl4 d1 n1 k1
      go_wp2_with fail
      go_ret
      rw [HS.out, if_neg (fun h => h HE.out)]
      exact ⟨rfl, HL4.out⟩
    · have hd0 : (e1 != 0) = true := by simpa using he
      have HE := hide he
      clear he c0
      go_wp2_with fail
      go_ret
      rw [HS.out, if_pos HE.out]
      exact ⟨rfl, HLF.out⟩

set_option maxHeartbeats 4000000 in
theorem open_any (w : World) (B : Nat) (s : Dv) (F : List Nat) (h : DevIn w B s F) :
    Calls Try.prog 12 #[.pointer (some ⟨B, 0, none⟩)] w fun e w' => ∃ (l : List ByteArray) (s' : Dv) (x : Int) (p : Option Addr) (v : Value), Opn s l s' x ∧ e = .returned (.tuple #[.pointer p, v, .int .i64 x]) ∧ w'.ownsRow w.heap.size 9 1 v l.length (strV l) ∧ Left w w' B s' F ∧ (if x = 0 then ∃ L, p = some ⟨L, 0, none⟩ ∧ LogB w' L B ∧ w.heap.size ≤ L else p = none) := by
  have HD := hide h
  have HOF := hide (off_any w B s F h)
  cases hoff : s.off with
  | true =>
    rw [hoff] at HOF
    have HF := hide hoff
    clear hoff h
    go_enter Try.func12, Try.ntmps12
    go_wp2_with fail
    refine HOF.out.mono ?_
    rintro e w1 ⟨rfl, rfl⟩
    go_wp2_with fail
    refine bodyPost_ret (results_tmp3 rfl _ _ _) rfl ?_
    exact ⟨[], s, 11, none, _, opn_off HF.out, rfl, World.ownsRow_nil .., Left.refl HD.out, by rw [if_neg (by decide)]⟩
  | false =>
    rw [hoff] at HOF
    have HF := hide hoff
    have hN := (show s.ok from by obtain ⟨_, _, _, h, _⟩ := h; exact h).2.1
    obtain ⟨N, hNN⟩ : ∃ N, N = s.all.length := ⟨_, rfl⟩
    have HN := hide hNN
    have HBY := hide (bytes_any w B s F h)
    rw [← hNN] at HBY hN
    clear hoff h hNN
    go_enter Try.func12, Try.ntmps12
    go_wp2_with fail
    refine HOF.out.mono ?_
    rintro e w1 ⟨rfl, rfl⟩
    go_wp2_with fail
    refine HBY.out.mono ?_
    rintro e w2 ⟨rfl, hnb⟩
    have HNB := hide hnb
    have HB2 : Hid (Below w1.heap.size w1 w2) := hide hnb.2
    clear hnb HBY HOF
    go_wp2_with fail
    refine (read_any w2 w1.heap.size N N s.all (fun j hj => by rw [Nat.zero_add]; exact tag_cell HNB.out.1 j _ (by rw [List.getElem?_toArray]; exact byte_at s.all j hj)) HN.out (Nat.le_refl _) hN).mono ?_
    rintro e w3 ⟨⟨v, l, r, rfl, hr, ho⟩, hb3⟩
    obtain ⟨vp, vc, rfl⟩ := own_len ho
    have HR := hide hr
    have HO := hide ho
    have HB3 : Hid (Below w1.heap.size w1 w3) := hide (bel2 HB2.out hb3)
    have HSZ0 : Hid (w2.heap.size ≤ w3.heap.size) := hide hb3.size
    have HNR : Hid ((r.length : Int) ≤ (N : Int)) := hide (by
      have := congrArg List.length hr.eq
      rw [List.length_append] at this
      have := HN.out
      omega)
    clear hr ho hb3
    go_upto_region 5 with fail
    obtain ⟨w4, hw4⟩ : ∃ w4, w4 = w3.alloc (.cells #[.int .i64 ((N : Int) - (r.length : Int)), .int .i64 (r.length : Int)] 60) := ⟨_, rfl⟩
    rw [← hw4]
    have hb4 : Below w3.heap.size w3 w4 := by rw [hw4]; exact (Below.refl _ _).alloc (Nat.le_refl _) _
    have hat : w4.heap[w3.heap.size]? = some (.cells #[.int .i64 ((N : Int) - (r.length : Int)), .int .i64 (r.length : Int)] 60 (0, 0)) := by rw [hw4]; exact heap_alloc_new _ _
    have HAT := hide hat
    have HB4 : Hid (Below w1.heap.size w1 w4) := hide (bel2 HB3.out hb4)
    have HO4 := hide (own_below HO.out hb4)
    have c0 : w4.cell? ⟨w3.heap.size, 0, none⟩ = some (.int .i64 ((N : Int) - (r.length : Int))) := tag_cell hat 0 _ rfl
    have c1 : w4.cell? ⟨w3.heap.size, 1, none⟩ = some (.int .i64 (r.length : Int)) := tag_cell hat 1 _ rfl
    clear hw4 hb4 hat HO HNB
    go_cut [25] from 9 to 36 (fun v25 wx => v25 = .bool (decide (r ≠ [])) ∧ Hid (Below w4.heap.size w4 wx))
    case first =>
      by_cases hre : r = []
      · subst hre
        have HDD : Hid (decide (([] : List UInt8) ≠ []) = false) := hide rfl
        have e0 : (N : Int) - ((([] : List UInt8).length : Nat) : Int) = (N : Int) := by simp
        have e1 : ((([] : List UInt8).length : Nat) : Int) = 0 := rfl
        rw [e0] at c0
        rw [e1] at c1
        clear e0 e1
        go_region_with (go_at_call 29; refine (endOf_any _ _ _ _).mono ?_; rintro e wE ⟨rfl, hbE⟩; have y0 : (World.drew w4).cell? ⟨w3.heap.size, 0, none⟩ = some (.int .i64 (N : Int)) := c0; have z0 := cell_keep y0 hbE; have y1 : (World.drew w4).cell? ⟨w3.heap.size, 1, none⟩ = some (.int .i64 0) := c1; have z1 := cell_keep y1 hbE; have HBE := hide (bel2 (bel_one w4) hbE); clear hbE y0 y1)
        all_goals
          go_wp2_with fail
          go_meet
          exact ⟨by rw [HDD.out], HBE⟩
      · have HDD : Hid (decide (r ≠ []) = true) := hide (decide_eq_true hre)
        have hpos : 0 < r.length := List.length_pos_iff.2 hre
        have hne : ((N : Int) - (r.length : Int) == (N : Int)) = false := by simp; omega
        clear hre hpos
        go_region_with (go_at_call 29; refine (endOf_any _ _ _ _).mono ?_; rintro e wE ⟨rfl, hbE⟩; have y0 : (World.drew w4).cell? ⟨w3.heap.size, 0, none⟩ = some (.int .i64 ((N : Int) - (r.length : Int))) := c0; have z0 := cell_keep y0 hbE; have y1 : (World.drew w4).cell? ⟨w3.heap.size, 1, none⟩ = some (.int .i64 (r.length : Int)) := c1; have z1 := cell_keep y1 hbE; have HBE := hide (bel2 (bel_one w4) hbE); clear hbE y0 y1)
        all_goals
          go_wp2_with fail
          go_meet
          exact ⟨by rw [HDD.out], HBE⟩
    case rest =>
    obtain ⟨rfl, HB5⟩ := hcut
    have HB6 : Hid (Below w1.heap.size w1 wc) := hide (bel2 HB4.out HB5.out)
    have HO6 := hide (own_below HO4.out HB5.out)
    have HD6 : Hid (DevIn wc B s F) := hide (HD.out.keep (keep_below HB6.out []) (by simp))
    clear c0 c1 HO4
    by_cases hre : r = []
    · have hd : decide (r ≠ []) = false := decide_eq_false (fun h => h hre)
      have HOP : Hid (Opn s l s 0) := hide (opn_all HF.out (by rw [← hre]; exact HR.out))
      rw [hd]
      clear hd hre
      go_wp2_with fail
      refine bodyPost_ret (results_tmp3 rfl _ _ _) rfl ?_
      refine ⟨l, s, 0, _, _, HOP.out, rfl, own_base (HO6.out.alloc _) HB2.out.size, ?_, ?_⟩
      · exact Left.on (Left.from HB6.out (Left.refl HD6.out)) ((Below.refl _ _).alloc (Nat.le_refl _) _)
      · rw [if_pos rfl]
        exact ⟨_, rfl, heap_alloc_new _ _, HB6.out.size⟩
    · have hd : decide (r ≠ []) = true := decide_eq_true hre
      have HRE := hide hre
      have c0 : wc.cell? ⟨w3.heap.size, 0, none⟩ = some (.int .i64 ((N : Int) - (r.length : Int))) := cell_keep (tag_cell HAT.out 0 _ rfl) HB5.out
      rw [hd]
      clear hd hre
      go_wp2_with fail
      have hnr := HNR.out
      obtain ⟨s1, hs1⟩ : ∃ s1, s1 = s.trim ((N : Int) - (r.length : Int)) := ⟨_, rfl⟩
      have HTR := trim_any wc B s F ((N : Int) - (r.length : Int)) HD6.out (by omega)
      rw [← hs1] at HTR
      have HS1 := hide hs1
      clear hs1 hnr
      obtain ⟨s1, e1⟩ := s1
      simp only at HTR
      refine HTR.mono ?_
      rintro e w7 ⟨rfl, hl7⟩
      have HL7 := hide (Left.from HB6.out hl7)
      have HO7 : Hid (w7.ownsRow w2.heap.size 9 1 (.slice vp l.length vc) l.length (strV l)) := hide (str_left HO6.out HD6.out hl7)
      clear hl7 HTR c0
      have HOP : Hid (Opn s (if e1 = 0 then l else []) s1 e1) := hide (by
        unfold Opn
        rw [if_neg (by rw [HF.out]; decide)]
        refine ⟨l, r, HR.out, ?_⟩
        rw [if_neg HRE.out, ← HN.out, ← HS1.out]
        exact ⟨rfl, rfl, rfl⟩)
      by_cases he : e1 = 0
      · have hd0 : (e1 != 0) = false := by simpa using he
        have HE := hide he
        clear he
        go_wp2_with fail
        refine bodyPost_ret (results_tmp3 rfl _ _ _) rfl ?_
        refine ⟨l, s1, 0, _, _, ?_, rfl, own_base (HO7.out.alloc _) HB2.out.size, Left.on HL7.out ((Below.refl _ _).alloc (Nat.le_refl _) _), ?_⟩
        · have h := HOP.out
          rw [if_pos HE.out, HE.out] at h
          exact h
        · rw [if_pos rfl]
          refine ⟨_, rfl, heap_alloc_new _ _, ?_⟩
          obtain ⟨_, _, _, hk⟩ := HL7.out
          exact hk.size
      · have hd0 : (e1 != 0) = true := by simpa using he
        have HE := hide he
        clear he
        go_wp2_with fail
        refine bodyPost_ret (results_tmp3 rfl _ _ _) rfl ?_
        refine ⟨[], s1, e1, none, _, ?_, rfl, World.ownsRow_nil .., HL7.out, ?_⟩
        · have h := HOP.out
          rw [if_neg HE.out] at h
          exact h
        · rw [if_neg HE.out]
end Go.Proofs.Ytipebinjdicnfaa
