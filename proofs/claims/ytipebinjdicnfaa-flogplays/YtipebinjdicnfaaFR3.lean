/-
  The document's Frame, Append and Open, walked.
-/
import Derived.Test.YtipebinjdicnfaaFR2
import Derived.Test.YtipebinjdicnfaaDP1
namespace Go.Proofs.Ytipebinjdicnfaa
open Go.RowKit

set_option maxHeartbeats 2000000 in
theorem rframe_any (w : World) (s : ByteArray) (hs : s.size ≤ 20000) : Calls Try.prog 33 #[.string s] w fun e w' => (∃ v, e = .returned v ∧ w'.ownsRow w.heap.size 5 1 v (fr s).length (Lib.byteCells (fr s))) ∧ Below w.heap.size w w' := by
  obtain ⟨i0, hi, hz0, hz1, hz2⟩ := info_parts infoByte
  have q1 : Int.tdiv (s.size : Int) 65536 = (s.size : Int) / 65536 := Int.tdiv_eq_ediv_of_nonneg (by omega)
  have q2 : Int.tdiv (s.size : Int) 256 = (s.size : Int) / 256 := Int.tdiv_eq_ediv_of_nonneg (by omega)
  have q3 : Int.tmod ((s.size : Int) / 256) 256 = (s.size : Int) / 256 := by rw [Int.tmod_eq_emod_of_nonneg (by omega)]; omega
  have q4 : Int.tmod (s.size : Int) 256 = (s.size : Int) % 256 := Int.tmod_eq_emod_of_nonneg (by omega)
  have HO1 : Hid ((w.alloc (.cells #[.int .u8 ((s.size : Int) / 65536), .int .u8 ((s.size : Int) / 256), .int .u8 ((s.size : Int) % 256)] 5)).ownsRow w.heap.size 5 1 (.slice (some ⟨w.heap.size, 0, none⟩) 3 3) 3 (Lib.byteCells (hd s.size))) := hide (by
    have e1 : ((UInt8.ofNat (s.size / 65536)).toNat : Int) = (s.size : Int) / 65536 := by rw [toNat_ofNat (by omega)]; omega
    have e2 : ((UInt8.ofNat (s.size / 256 % 256)).toNat : Int) = (s.size : Int) / 256 := by rw [toNat_ofNat (by omega)]; omega
    have e3 : ((UInt8.ofNat (s.size % 256)).toNat : Int) = (s.size : Int) % 256 := by rw [toNat_ofNat (by omega)]; omega
    refine ⟨rfl, .inr ⟨w.heap.size, 3, _, rfl, Nat.le_refl _, heap_alloc_new w _, Nat.le_refl _, by unfold maxLen; omega, rfl, ?_⟩⟩
    show [Value.int .u8 ((s.size : Int) / 65536), .int .u8 ((s.size : Int) / 256), .int .u8 ((s.size : Int) % 256)] = _
    rw [← e1, ← e2, ← e3]
    rfl)
  go_enter Try.func33, Try.ntmps33
  go_wp2_with (at_builtin; refine Lib.wpList_append_own_string _ rfl _ _ 38 9 rfl w.heap.size 5 i0 Try.underlying38 Try.underlying9 hi hz0 hz1 hz2 _ 3 _ rfl HO1.out s rfl (by unfold maxLen; omega) (by omega) (by simp) ?_)
  intro v3 w3 ho3 hg3 _
  obtain ⟨p3, c3, rfl⟩ := own_len ho3
  have HO3 := hide ho3
  have HW3 : Hid (Below w.heap.size w w3) := hide (((Below.refl _ w).alloc (Nat.le_refl _) _).grown hg3 (by simp) (fun k h => (HO1.out.lt k h).1))
  clear ho3 hg3
  go_wp2_with fail
  go_ret
  refine ⟨⟨_, rfl, ?_⟩, HW3.out⟩
  have h := HO3.out
  rw [fr_len]
  have e : Lib.byteCells (hd s.size) ++ Lib.strCells s = Lib.byteCells (fr s) := by
    unfold fr
    rw [byte_app]
    rfl
  rw [← e]
  exact h

def Rv.put (s : Rv) (t : ByteArray) : Rv × Int :=
  if 20000 < t.size then (s, 4) else if (s.app (fr t)).2 ≠ 0 then s.app (fr t) else (s.app (fr t)).1.sync
theorem Sim.put {s : Dv} {r : Rv} (h : Sim s r) (t : ByteArray) : (s.put t).2 = (r.put t).2 ∧ Sim (s.put t).1 (r.put t).1 := by
  unfold Dv.put Rv.put
  by_cases ht : 20000 < t.size
  · rw [if_pos ht, if_pos ht]
    exact ⟨rfl, h⟩
  · rw [if_neg ht, if_neg ht]
    have ha := h.app (fr t)
    by_cases he : (s.app (fr t)).2 ≠ 0
    · rw [if_pos he, if_pos (by rw [← ha.1]; exact he)]
      exact ha
    · rw [if_neg he, if_neg (by rw [← ha.1]; exact he)]
      exact ha.2.sync
/-- What opening tells, and leaves, of the document's. -/
def ROpn (s : Rv) (l : List ByteArray) (s' : Rv) (e : Int) : Prop :=
  if s.off then l = [] ∧ s' = s ∧ e = 11 else ∃ l0 r, Rd (s.la ++ s.wa) l0 r ∧ if r = [] then l = l0 ∧ s' = s ∧ e = 0 else (s.trim (((s.la ++ s.wa).length : Int) - (r.length : Int))).1 = s' ∧ e = (if (s.trim (((s.la ++ s.wa).length : Int) - (r.length : Int))).2 = 0 then 0 else 11) ∧ l = if (s.trim (((s.la ++ s.wa).length : Int) - (r.length : Int))).2 = 0 then l0 else []
theorem trim_errs (s : Rv) (n : Int) (h0 : 0 ≤ n) (h1 : n ≤ ((s.la ++ s.wa).length : Int)) : (s.trim n).2 = 0 ∨ (s.trim n).2 = 11 := by
  unfold Rv.trim
  split
  · exact .inr rfl
  · split
    · rename_i h
      omega
    · split
      · exact .inr rfl
      · exact .inl rfl
theorem Sim.opn {s : Dv} {r : Rv} (h : Sim s r) {l l' : List ByteArray} {s' : Dv} {r' : Rv} {e e' : Int} (ho : Opn s l s' e) (hr : ROpn r l' r' e') : l = l' ∧ e = e' ∧ Sim s' r' := by
  obtain ⟨h1, h2, h3, h4⟩ := id h
  unfold Opn at ho
  unfold ROpn at hr
  by_cases hoff : s.off = true
  · rw [if_pos hoff] at ho
    rw [if_pos (by rw [← h3]; exact hoff)] at hr
    obtain ⟨rfl, rfl, rfl⟩ := ho
    obtain ⟨rfl, rfl, rfl⟩ := hr
    exact ⟨rfl, rfl, h⟩
  · rw [if_neg hoff] at ho
    rw [if_neg (by rw [← h3]; exact hoff), ← h1] at hr
    obtain ⟨l0, q, hq, ho⟩ := ho
    obtain ⟨l1, q1, hq1, hr⟩ := hr
    obtain ⟨rfl, rfl⟩ := hq.one hq1
    by_cases hn : q = []
    · rw [if_pos hn] at ho hr
      obtain ⟨rfl, rfl, rfl⟩ := ho
      obtain ⟨rfl, rfl, rfl⟩ := hr
      exact ⟨rfl, rfl, h⟩
    · rw [if_neg hn] at ho hr
      have ht := h.trim ((s.all.length : Int) - (q.length : Int))
      have hqe := congrArg List.length hq.eq
      rw [List.length_append] at hqe
      have he := trim_errs r ((s.all.length : Int) - (q.length : Int)) (by omega) (by rw [← h1]; omega)
      obtain ⟨rfl, rfl, rfl⟩ := ho
      obtain ⟨rfl, rfl, rfl⟩ := hr
      rw [ht.1]
      refine ⟨rfl, ?_, ht.2⟩
      rcases he with he | he <;> rw [he] <;> rfl

theorem rstr_out {w : World} {b B : Nat} {s : Rv} {F : List Nat} {v : Value} {n : Nat} {xs : List Value} (h : w.ownsRow b 9 1 v n xs) (hd : RefIn w B s F) : ∀ k, v.ownBlock = some k → k ∉ F := by
  obtain ⟨lv, wv, hb, hl, hw, _, _, rfl⟩ := hd
  intro k hk hm
  rcases List.mem_cons.1 hm with rfl | hm
  · exact own_apart h hb (by decide) hk
  · rcases List.mem_append.1 hm with hm | hm
    · rcases own_two h hl (by decide) with e | e
      · rw [e] at hk
        cases hk
      · exact e (by rw [hk, mem_blk.1 hm])
    · rcases own_two h hw (by decide) with e | e
      · rw [e] at hk
        cases hk
      · exact e (by rw [hk, mem_blk.1 hm])

set_option maxHeartbeats 2000000 in
theorem rput_any (w : World) (B : Nat) (s : Rv) (F : List Nat) (t : ByteArray) (h : RefIn w B s F) :
    Calls Try.prog 14 #[.pointer (some ⟨B, 0, none⟩), .string t] w fun e w' => e = .returned (.int .i64 (s.put t).2) ∧ RLeft w w' B (s.put t).1 F := by
  have HD := hide h
  clear h
  by_cases ht : 20000 < t.size
  · have hd : decide ((20000 : Int) < (t.size : Int)) = true := decide_eq_true (by omega)
    have HS : Hid (s.put t = (s, 4)) := hide (by unfold Rv.put; rw [if_pos ht])
    clear ht
    go_enter Try.func14, Try.ntmps14
    go_wp2_with fail
    go_ret
    rw [HS.out]
    exact ⟨rfl, RLeft.refl HD.out⟩
  · have hd : decide ((20000 : Int) < (t.size : Int)) = false := decide_eq_false (by omega)
    have HT : Hid (t.size ≤ 20000) := hide (by omega)
    have HS : Hid (s.put t = if (s.app (fr t)).2 ≠ 0 then s.app (fr t) else (s.app (fr t)).1.sync) := hide (by unfold Rv.put; rw [if_neg ht])
    clear ht
    go_enter Try.func14, Try.ntmps14
    go_wp2_with fail
    refine (rframe_any w t HT.out).mono ?_
    rintro e w2 ⟨⟨v, rfl, ho2⟩, hb2⟩
    have HB2 := hide hb2
    have HO2 := hide ho2
    have HD2 : Hid (RefIn w2 B s F) := hide (HD.out.keep (keep_below hb2 []) (by simp))
    clear ho2 hb2
    go_wp2_with fail
    refine (rappend_any w2 B s F v (fr t) HD2.out (own_bytes (own_base HO2.out (Nat.zero_le _))) (fun _ k hk hF => ?_) (by rw [fr_len]; have := HT.out; omega)).mono ?_
    · have h1 := (HO2.out.lt k hk).1
      have h2 := HD.out.lt k hF
      omega
    rintro e w3 ⟨rfl, F3, d3, n3, k3⟩
    have HD3 := hide d3
    have HN3 : Hid (Near w F F3 ∧ Keep w w3 F) := hide ⟨fun k hk => (n3 k hk).imp id (fun e => Nat.le_trans HB2.out.size e), (keep_below HB2.out F).trans (Near.refl _ _) k3⟩
    clear d3 n3 k3
    obtain ⟨s1, hs1⟩ : ∃ s1, s1 = s.app (fr t) := ⟨_, rfl⟩
    rw [← hs1] at HS HD3 ⊢
    clear hs1
    obtain ⟨s1, e1⟩ := s1
    simp only at HS HD3 ⊢
    by_cases he : e1 = 0
    · have hd0 : (e1 != 0) = false := by simpa using he
      have HE := hide he
      clear he
      go_wp2_with fail
      refine (rsync_any w3 B s1 F3 HD3.out).mono ?_
      rintro e w4 ⟨rfl, hl4⟩
      have HL4 := hide (RLeft.then HN3.out.1 HN3.out.2 hl4)
      clear hl4
      go_wp2_with fail
      go_ret
      rw [HS.out, if_neg (fun h => h HE.out)]
      exact ⟨rfl, HL4.out⟩
    · have hd0 : (e1 != 0) = true := by simpa using he
      have HE := hide he
      clear he
      go_wp2_with fail
      go_ret
      rw [HS.out, if_pos HE.out]
      exact ⟨rfl, F3, HD3.out, HN3.out.1, HN3.out.2⟩

set_option maxHeartbeats 2000000 in
theorem ropen_any (w : World) (B : Nat) (s : Rv) (F : List Nat) (h : RefIn w B s F) :
    Calls Try.prog 19 #[.pointer (some ⟨B, 0, none⟩)] w fun e w' => ∃ (l : List ByteArray) (s' : Rv) (x : Int) (v : Value), ROpn s l s' x ∧ e = .returned (.tuple #[v, .int .i64 x]) ∧ w'.ownsRow w.heap.size 9 1 v l.length (strV l) ∧ RLeft w w' B s' F := by
  have HD := hide h
  have c3 : w.cell? ⟨B, 3, none⟩ = some (.bool s.off) := by
    obtain ⟨lv, wv, hb, _⟩ := h
    exact tag_cell hb 3 _ rfl
  have hok : s.ok := by obtain ⟨_, _, _, _, _, _, h, _⟩ := h; exact h
  cases hoff : s.off with
  | true =>
    rw [hoff] at c3
    have HF := hide hoff
    clear hoff h hok
    go_enter Try.func19, Try.ntmps19
    go_wp2_with fail
    refine bodyPost_ret (results_tmp2 rfl _ _ _) rfl ?_
    exact ⟨[], s, 11, _, by unfold ROpn; rw [if_pos HF.out]; exact ⟨rfl, rfl, rfl⟩, rfl, World.ownsRow_nil .., RLeft.refl HD.out⟩
  | false =>
    rw [hoff] at c3
    have HF := hide hoff
    obtain ⟨X, hX⟩ : ∃ X, X = s.la ++ s.wa := ⟨_, rfl⟩
    have hXl : X.length ≤ 60000 := by rw [hX, List.length_append]; exact hok.1
    have HBY := hide (rbytes_any w B s F h)
    rw [← hX] at HBY
    have HX := hide hX
    clear hoff h hok hX
    go_enter Try.func19, Try.ntmps19
    go_wp2_with fail
    refine HBY.out.mono ?_
    rintro e w2 ⟨v, rfl, ho2, hb2⟩
    obtain ⟨vp, vc, rfl⟩ := own_len ho2
    obtain ⟨N, hN⟩ : ∃ N, N = X.length := ⟨_, rfl⟩
    have hby := own_bytes ho2
    have hcap := own_cap ho2
    rw [← hN] at hby hcap hXl ⊢
    have HB2 := hide hb2
    have HV := hide hby
    have HN := hide hN
    clear ho2 hb2 hby hN HBY
    go_wp2_with fail
    refine (frames_any w2 vp N vc X HV.out hcap hXl).mono ?_
    rintro e w3 ⟨⟨q, n, cc, l, r, hn, rfl, hr, ho⟩, hb3⟩
    have HB3 := hide (bel2 HB2.out hb3)
    have HD3 := hide (HD.out.keep (keep_below HB3.out []) (by simp))
    have HO3 : Hid (w3.ownsRow w.heap.size 9 1 (.slice q n cc) l.length (strV l)) := hide (by rw [← hn]; exact own_base ho HB2.out.size)
    obtain ⟨K, hK⟩ : ∃ K, K = (frs l).length := ⟨_, rfl⟩
    rw [← hK]
    have HR : Hid (Rd X l r ∧ K + r.length = N ∧ n = l.length) := hide ⟨hr, by
      have := congrArg List.length hr.eq
      rw [List.length_append] at this
      rw [hK, HN.out, this], hn⟩
    clear hn hr ho hb3 hK
    by_cases hre : r = []
    · have hKN : K = N := by have := HR.out.2.1; rw [hre] at this; simpa using this
      have d0 : decide (K < N) = false := decide_eq_false (by omega)
      have HOP : Hid (ROpn s l s 0) := hide (by
        unfold ROpn
        rw [if_neg (by rw [HF.out]; decide)]
        exact ⟨l, r, by rw [← HX.out]; exact HR.out.1, by rw [if_pos hre]; exact ⟨rfl, rfl, rfl⟩⟩)
      clear hre hKN
      go_wp2_with fail
      refine bodyPost_ret (results_tmp2 rfl _ _ _) rfl ?_
      exact ⟨l, s, 0, _, HOP.out, rfl, HO3.out, F, HD3.out, Near.refl _ _, keep_below HB3.out F⟩
    · have hpos : 0 < r.length := List.length_pos_iff.2 hre
      have hKN : K < N := by have := HR.out.2.1; omega
      have d0 : decide (K < N) = true := decide_eq_true (by omega)
      have hki : ((N : Int) - (r.length : Int)) = (K : Int) := by have := HR.out.2.1; omega
      obtain ⟨P1, hP1⟩ : ∃ P1, P1 = s.trim (K : Int) := ⟨_, rfl⟩
      have hte : P1.2 = 0 ∨ P1.2 = 11 := by rw [hP1]; exact trim_errs s (K : Int) (by omega) (by rw [← HX.out, ← HN.out]; omega)
      have HTR := rtrim_any w3 B s F (K : Int) HD3.out (by omega)
      rw [← hP1] at HTR
      have HOP : Hid (ROpn s (if P1.2 = 0 then l else []) P1.1 (if P1.2 = 0 then 0 else 11)) := hide (by
        unfold ROpn
        rw [if_neg (by rw [HF.out]; decide)]
        refine ⟨l, r, by rw [← HX.out]; exact HR.out.1, ?_⟩
        rw [if_neg hre, ← HX.out, ← HN.out, hki, ← hP1]
        exact ⟨rfl, rfl, rfl⟩)
      have HTE := hide hte
      have HTR2 := hide HTR
      clear hP1 hpos hKN hki hre hte HTR
      obtain ⟨s1, e1⟩ := P1
      simp only at HTE HTR2 HOP
      go_wp2_with fail
      refine HTR2.out.mono ?_
      rintro e w4 ⟨rfl, F4, d4, n4, k4⟩
      have HL4 : Hid (RLeft w w4 B s1 F) := hide ⟨F4, d4, fun k hk => (n4 k hk).imp id (fun e => Nat.le_trans HB3.out.size e), (keep_below HB3.out F).trans (Near.refl _ _) k4⟩
      have HO4 : Hid (w4.ownsRow w.heap.size 9 1 (.slice q n cc) l.length (strV l)) := hide (own_stays HO3.out k4.block (rstr_out HO3.out HD3.out))
      clear d4 n4 k4 HTR2
      rcases HTE.out with he | he
      · have hd0 : (e1 != 0) = false := by simpa using he
        have HE := hide he
        clear he
        go_wp2_with fail
        refine bodyPost_ret (results_tmp2 rfl _ _ _) rfl ?_
        have h := HOP.out
        rw [if_pos HE.out, if_pos HE.out] at h
        exact ⟨l, s1, 0, _, h, rfl, HO4.out, HL4.out⟩
      · have hd0 : (e1 != 0) = true := by rw [he]; rfl
        have HE : Hid (e1 ≠ 0) := hide (by omega)
        clear he
        go_wp2_with fail
        refine bodyPost_ret (results_tmp2 rfl _ _ _) rfl ?_
        have h := HOP.out
        rw [if_neg HE.out, if_neg HE.out] at h
        exact ⟨[], s1, 11, _, h, rfl, World.ownsRow_nil .., HL4.out⟩
end Go.Proofs.Ytipebinjdicnfaa
