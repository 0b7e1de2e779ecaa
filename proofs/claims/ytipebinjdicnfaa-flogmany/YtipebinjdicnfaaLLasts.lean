/-
  The law FlogLasts, walked.
-/
import Derived.Test.YtipebinjdicnfaaFW4
import Derived.Test.YtipebinjdicnfaaLAgain
import Derived.Deep.LoopGhost
import Derived.OpenShut
namespace Go.Proofs.Ytipebinjdicnfaa
open Go.RowKit

theorem restart_whole (x : List UInt8) (k : Int) (lf : Int) (o : Bool) : Dv.restart ⟨x, 0, lf, o⟩ k = ⟨x, 0, -1, false⟩ := by
  unfold Dv.restart Dv.kept
  congr 1
  show x.take (x.length - 0 + min k.toNat 0) = x
  rw [Nat.min_zero, Nat.add_zero, Nat.sub_zero, List.take_length]
theorem restart_part (a b : List UInt8) (keep lf : Int) (o : Bool) : Dv.restart ⟨a ++ b, b.length, lf, o⟩ keep = ⟨a ++ b.take (min keep.toNat b.length), 0, -1, false⟩ := by
  unfold Dv.restart Dv.kept
  congr 1
  show (a ++ b).take ((a ++ b).length - b.length + min keep.toNat b.length) = _
  rw [List.length_append, Nat.add_sub_cancel, List.take_append, List.take_of_length_le (by omega)]
  congr 2
  omega
/-- Behind a loss of power in one more text. -/
theorem lasts_math (A : List ByteArray) (hA : ∀ t ∈ A, t.size ≤ 20000) (t : ByteArray) (ht : t.size ≤ 20000) (x0 x1 : Int) (h0 : 0 ≤ x0) (P : Dv × Int) (hP : P = Dv.put ⟨frs A, 0, x0, false⟩ t) :
    ∃ l s', Opn (P.1.restart x1) l s' 0 ∧ l.length ≤ A.length + 1 ∧ (P.2 = 0 ∧ l = A ++ [t] ∨ P.2 = 10 ∧ l = A ∨ P.2 = 11 ∧ (l = A ∨ l = A ++ [t])) := by
  have hR := Rd.frs hA
  have hR2 := rd_two hA ht
  have hA1 : (A ++ [t]).length = A.length + 1 := by rw [List.length_append]; rfl
  have hnl : ¬ 20000 < t.size := by omega
  have hlen := fr_len t
  subst hP
  unfold Dv.put
  rw [if_neg hnl]
  by_cases hf : 60000 < (frs A).length + (fr t).length
  · have e : Dv.app ⟨frs A, 0, x0, false⟩ (fr t) = (⟨frs A, 0, x0, false⟩, 10) := by
      unfold Dv.app
      rw [if_neg (show ¬ (false = true) by decide), if_pos hf]
    rw [e, if_pos (show (10 : Int) ≠ 0 by decide)]
    rw [restart_whole]
    exact ⟨A, ⟨frs A, 0, -1, false⟩, opn_all rfl hR, Nat.le_succ _, .inr (.inl ⟨rfl, rfl⟩)⟩
  · rcases Int.lt_or_eq_of_le h0 with h1 | h1
    · have e : Dv.app ⟨frs A, 0, x0, false⟩ (fr t) = (⟨frs A ++ fr t, (fr t).length, x0 - 1, false⟩, 0) := by
        have hg : Dv.goes ⟨frs A, 0, x0, false⟩ = ⟨frs A, 0, x0 - 1, false⟩ := by
          unfold Dv.goes
          rw [if_neg (show ¬ x0 = 0 by omega), if_pos (show 0 < x0 by omega)]
        unfold Dv.app
        rw [if_neg (show ¬ (false = true) by decide), if_neg hf, hg, if_neg (show ¬ (false = true) by decide)]
        show ((⟨frs A ++ fr t, 0 + (fr t).length, x0 - 1, false⟩ : Dv), (0 : Int)) = _
        rw [Nat.zero_add]
      rw [e, if_neg (show ¬ ((0 : Int) ≠ 0) by decide)]
      by_cases h2 : x0 - 1 = 0
      · have es : Dv.sync ⟨frs A ++ fr t, (fr t).length, x0 - 1, false⟩ = (⟨frs A ++ fr t, (fr t).length, x0 - 1, true⟩, 11) := by
          have hg : Dv.goes ⟨frs A ++ fr t, (fr t).length, x0 - 1, false⟩ = ⟨frs A ++ fr t, (fr t).length, x0 - 1, true⟩ := by
            unfold Dv.goes
            rw [if_pos h2]
          unfold Dv.sync
          rw [if_neg (show ¬ (false = true) by decide), hg, if_pos rfl]
        show ∃ l s', Opn ((Dv.sync ⟨frs A ++ fr t, (fr t).length, x0 - 1, false⟩).1.restart x1) l s' 0 ∧ _
        rw [es]
        show ∃ l s', Opn (Dv.restart ⟨frs A ++ fr t, (fr t).length, x0 - 1, true⟩ x1) l s' 0 ∧ _
        rw [restart_part]
        by_cases hk : (fr t).length ≤ x1.toNat
        · have : (fr t).take (min x1.toNat (fr t).length) = fr t := by rw [Nat.min_eq_right hk, List.take_length]
          rw [this]
          exact ⟨A ++ [t], ⟨frs A ++ fr t, 0, -1, false⟩, opn_all rfl hR2, by omega, .inr (.inr ⟨rfl, .inr rfl⟩)⟩
        · have : min x1.toNat (fr t).length = x1.toNat := by omega
          rw [this]
          exact ⟨A, _, opn_ok 0 (hR.part x1.toNat (by omega) ht), Nat.le_succ _, .inr (.inr ⟨rfl, .inl rfl⟩)⟩
      · have es : Dv.sync ⟨frs A ++ fr t, (fr t).length, x0 - 1, false⟩ = (⟨frs A ++ fr t, 0, x0 - 1 - 1, false⟩, 0) := by
          have hg : Dv.goes ⟨frs A ++ fr t, (fr t).length, x0 - 1, false⟩ = ⟨frs A ++ fr t, (fr t).length, x0 - 1 - 1, false⟩ := by
            unfold Dv.goes
            rw [if_neg h2, if_pos (show 0 < x0 - 1 by omega)]
          unfold Dv.sync
          rw [if_neg (show ¬ (false = true) by decide), hg, if_neg (show ¬ (false = true) by decide)]
        show ∃ l s', Opn ((Dv.sync ⟨frs A ++ fr t, (fr t).length, x0 - 1, false⟩).1.restart x1) l s' 0 ∧ _
        rw [es]
        show ∃ l s', Opn (Dv.restart ⟨frs A ++ fr t, 0, x0 - 1 - 1, false⟩ x1) l s' 0 ∧ _
        rw [restart_whole]
        exact ⟨A ++ [t], ⟨frs A ++ fr t, 0, -1, false⟩, opn_all rfl hR2, by omega, .inl ⟨rfl, rfl⟩⟩
    · have e : Dv.app ⟨frs A, 0, x0, false⟩ (fr t) = (⟨frs A, 0, x0, true⟩, 11) := by
        have hg : Dv.goes ⟨frs A, 0, x0, false⟩ = ⟨frs A, 0, x0, true⟩ := by
          unfold Dv.goes
          rw [if_pos (show x0 = 0 from h1.symm)]
        unfold Dv.app
        rw [if_neg (show ¬ (false = true) by decide), if_neg hf, hg, if_pos rfl]
      rw [e, if_pos (show (11 : Int) ≠ 0 by decide)]
      rw [restart_whole]
      exact ⟨A, ⟨frs A, 0, -1, false⟩, opn_all rfl hR, Nat.le_succ _, .inr (.inr ⟨rfl, .inl rfl⟩)⟩
theorem FD.grown {w w' : World} {base B b : Nat} {s : Dv} {v : Value} {n : Nat} {xs : List Value} (h : FD w base B s) (ho : w.ownsRow b 9 1 v n xs) (hg : w.grownBy w' v.ownBlock) : FD w' base B s := by
  obtain ⟨F, h1, h2, h3⟩ := h
  have hk : Keep w w' v.ownBlock.toList := ⟨hg.os, hg.tape, hg.output, hg.size, fun k hk hF => hg.block k hk (fun e => hF (by rw [← e]; simp))⟩
  refine ⟨F, h1.keep hk (fun k hk hm => ?_), h2, Nat.le_trans h3 hg.size⟩
  exact str_out ho h1 k (by simpa using hm) hk
theorem LogB.grown {w w' : World} {L B b : Nat} {v : Value} {n : Nat} {xs : List Value} (h : LogB w L B) (ho : w.ownsRow b 9 1 v n xs) (hg : w.grownBy w' v.ownBlock) : LogB w' L B :=
  (hg.block L (lt_of_block h) (fun e => own_apart ho h (by decide) e.symm)).trans h
set_option maxHeartbeats 8000000 in
theorem lasts_walk (p : Option Addr) (N cap : Nat) (ts : List ByteArray) (t : ByteArray) (x0 x1 : Int) (w : World) (h : StrArg w (.slice p N cap) ts) (hx0 : (Lit.int .i64 x0).wf = true) (hx1 : (Lit.int .i64 x1).wf = true) :
    Calls Try.prog 5 #[.slice p N cap, .string t, .agg #[.int .i64 x0, .int .i64 x1]] w fun e w' => e = .returned (.bool true) ∧ Below w.heap.size w w' := by
  have HROW := hide h
  have hN : N = ts.length := by
    obtain ⟨_, _, e, _⟩ := h
    injection e
  have HN := hide hN
  have HX0 := hide (Go.bounds_i64 hx0)
  have HX1 := hide (Go.bounds_i64 hx1)
  clear h hN hx0 hx1
  obtain ⟨w0, hw0⟩ : ∃ w0, w0 = w.alloc (.cells #[.int .i64 x0, .int .i64 x1] 52) := ⟨_, rfl⟩
  have hb0 : Below w.heap.size w w0 := by rw [hw0]; exact (Below.refl _ _).alloc (Nat.le_refl _) _
  have hxb : w0.heap[w.heap.size]? = some (.cells #[.int .i64 x0, .int .i64 x1] 52 (0, 0)) := by rw [hw0]; exact heap_alloc_new _ _
  have HB0 := hide hb0
  have HXB : Hid (∀ wx, Below w0.heap.size w0 wx → wx.cell? ⟨w.heap.size, 0, none⟩ = some (.int .i64 x0) ∧ wx.cell? ⟨w.heap.size, 1, none⟩ = some (.int .i64 x1)) := hide (fun wx hx => ⟨cell_keep (tag_cell hxb 0 _ rfl) hx, cell_keep (tag_cell hxb 1 _ rfl) hx⟩)
  clear hb0 hxb
  by_cases h2 : (20 : Int) < (N : Int)
  · have e2 : decide ((20 : Int) < (N : Int)) = true := by simpa using h2
    clear h2
    go_enter Try.func5, Try.ntmps5
    go_upto_region 1 with fail
    rw [← hw0]
    clear hw0
    go_wp2_with fail
    refine (awake_any w0).mono ?_
    rintro e w1 ⟨rfl, hb1⟩
    have HB1 := hide hb1
    clear hb1
    go_wp2_with fail
    refine (fnew w1 w0.heap.size HB1.out.size).mono ?_
    rintro e w2 ⟨rfl, -, ha2⟩
    have HB2 := hide (HB0.out.trans ((HB1.out.trans ha2.below).mono HB0.out.size))
    clear ha2
    go_wp2_with fail
    go_ret
    exact ⟨rfl, HB2.out⟩
  have e2 : decide ((20 : Int) < (N : Int)) = false := by simpa using h2
  have H20 : Hid (N ≤ 20) := hide (by omega)
  clear h2
  by_cases h3 : (20000 : Int) < (t.size : Int)
  · have e3 : decide ((20000 : Int) < (t.size : Int)) = true := by simpa using h3
    clear h3
    go_enter Try.func5, Try.ntmps5
    go_upto_region 1 with fail
    rw [← hw0]
    clear hw0
    go_wp2_with fail
    refine (awake_any w0).mono ?_
    rintro e w1 ⟨rfl, hb1⟩
    have HB1 := hide hb1
    clear hb1
    go_wp2_with fail
    refine (fnew w1 w0.heap.size HB1.out.size).mono ?_
    rintro e w2 ⟨rfl, -, ha2⟩
    have HB2 := hide (HB0.out.trans ((HB1.out.trans ha2.below).mono HB0.out.size))
    clear ha2
    go_wp2_with fail
    go_ret
    exact ⟨rfl, HB2.out⟩
  have e3 : decide ((20000 : Int) < (t.size : Int)) = false := by simpa using h3
  have HTS : Hid (t.size ≤ 20000) := hide (by omega)
  clear h3
  by_cases h4 : x0 < 0
  · have e4 : decide (x0 < 0) = true := by simpa using h4
    clear h4
    go_enter Try.func5, Try.ntmps5
    go_upto_region 1 with fail
    rw [← hw0]
    clear hw0
    go_wp2_with fail
    refine (awake_any w0).mono ?_
    rintro e w1 ⟨rfl, hb1⟩
    have HB1 := hide hb1
    clear hb1
    go_wp2_with fail
    refine (fnew w1 w0.heap.size HB1.out.size).mono ?_
    rintro e w2 ⟨rfl, -, ha2⟩
    have HB2 := hide (HB0.out.trans ((HB1.out.trans ha2.below).mono HB0.out.size))
    obtain ⟨y0, y1⟩ := HXB.out _ (HB1.out.trans ha2.below)
    clear ha2
    go_wp2_with fail
    go_ret
    exact ⟨rfl, HB2.out⟩
  have e4 : decide (x0 < 0) = false := by simpa using h4
  have H0 : Hid (0 ≤ x0) := hide (by omega)
  clear h4
  go_enter Try.func5, Try.ntmps5
  go_upto_region 1 with fail
  rw [← hw0]
  clear hw0
  go_wp2_with fail
  refine (awake_any w0).mono ?_
  rintro e w1 ⟨rfl, hb1⟩
  have HB1 := hide hb1
  clear hb1
  go_wp2_with fail
  refine (fnew w1 w0.heap.size HB1.out.size).mono ?_
  rintro e w2 ⟨rfl, hd2, ha2⟩
  have HD2 := hide hd2
  have HA2 := hide ((Aft.of HB1.out (Nat.le_refl _)).trans ha2)
  obtain ⟨y0, y1⟩ := HXB.out _ HA2.out.below
  clear ha2 hd2
  go_wp2_with fail
  refine (fopen HD2.out [] ⟨[], 0, -1, false⟩ (opn_all rfl Rd.nil)).mono ?_
  rintro e w3 ⟨⟨L, vp, vc, rfl, hl3, _⟩, hd3, ha3⟩
  have HI3 : Hid (FD w3 w0.heap.size w1.heap.size ⟨frs [], 0, -1, false⟩ ∧ LogB w3 L w1.heap.size ∧ Below w0.heap.size w0 w3 ∧ (∀ x ∈ ([] : List ByteArray), x.size ≤ 20000) ∧ w3.ownsRow w0.heap.size 9 1 (.slice none 0 0) ([] : List ByteArray).length (strV []) ∧ (frs []).length ≤ 60000) := hide ⟨hd3, hl3, HA2.out.below.trans ha3.below, by simp, World.ownsRow_nil .., by decide⟩
  clear hd3 ha3 hl3 y0 y1
  go_wp2_with fail
  go_loopg [12, 13] N (fun g v12 v13 wr => ∃ (i n c : Nat) (q : Option Addr) (A : List ByteArray), i + g = N ∧ v13 = .int .i64 (i : Int) ∧ v12 = .slice q n c ∧ n = A.length ∧ n ≤ i ∧ Hid (FD wr w0.heap.size w1.heap.size ⟨frs A, 0, -1, false⟩ ∧ LogB wr L w1.heap.size ∧ Below w0.heap.size w0 wr ∧ (∀ x ∈ A, x.size ≤ 20000) ∧ wr.ownsRow w0.heap.size 9 1 (.slice q n c) A.length (strV A) ∧ (frs A).length ≤ 60000))
  case atStart => exact ⟨0, 0, 0, none, [], by omega, rfl, rfl, rfl, Nat.le_refl _, HI3⟩
  case round =>
    obtain ⟨i, n, c, q, A, hi, rfl, rfl, hnA, hni, HI⟩ := hrel
    have HNA := hide hnA
    have h20 : N ≤ 20 := H20.out
    clear HI3 HA2 HD2 hnA
    by_cases hlt : i < N
    · have hd : decide ((i : Int) < (N : Int)) = true := decide_eq_true (by omega)
      have hja : i < ts.length := by have := HN.out; omega
      have hga : ts[i]? = some ts[i] := List.getElem?_eq_getElem hja
      generalize ts[i] = x at hga
      obtain ⟨p1, c1, e1, -, hc1⟩ := HROW.out
      injection e1 with e1 e1a e1b
      clear e1a e1b
      obtain ⟨b1, o1, hp1, k1⟩ := hc1 i x hga
      rw [← e1] at hp1
      subst hp1
      have KC : Hid (∀ wx, Below w0.heap.size w0 wx → wx.cell? ⟨b1, o1 + i, none⟩ = some (.string x)) := hide (fun wx hx => cell_keep (cell_keep k1 HB0.out) hx)
      have c1 := KC.out _ HI.out.2.2.1
      clear e1 hc1 hga hja k1
      by_cases hx : (20000 : Int) < (x.size : Int)
      · have d1 : decide ((20000 : Int) < (x.size : Int)) = true := by simpa using hx
        have HBE : Hid (Below w.heap.size w wr) := hide (HB0.out.trans (HI.out.2.2.1.mono HB0.out.size))
        clear hx
        go_wp2_with fail
        go_ret
        exact ⟨rfl, HBE.out⟩
      · have d1 : decide ((20000 : Int) < (x.size : Int)) = false := by simpa using hx
        have HX : Hid (x.size ≤ 20000) := hide (by omega)
        clear hx
        by_cases hf : (frs A).length + (3 + x.size) ≤ 60000
        · have HP : Hid (Dv.put ⟨frs A, 0, -1, false⟩ x = (⟨frs (A ++ [x]), 0, -1, false⟩, 0)) := hide (by rw [put_ok _ _ _ HX.out hf, frs_app, frs_one])
          have HF : Hid ((frs (A ++ [x])).length ≤ 60000) := hide (by rw [frs_app, frs_one, List.length_append, fr_len]; exact hf)
          clear hf
          go_wp2_with fail
          refine (fput HI.out.1 HI.out.2.1 x _ HP.out).mono ?_
          rintro e w5 ⟨rfl, hd5, ha5⟩
          have hb6 : Below w5.heap.size w5 (w5.alloc (.cells #[.string x] 9)) := (Below.refl _ _).alloc (Nat.le_refl _) _
          have HI5 : Hid (FD (w5.alloc (.cells #[.string x] 9)) w0.heap.size w1.heap.size ⟨frs (A ++ [x]), 0, -1, false⟩ ∧ LogB (w5.alloc (.cells #[.string x] 9)) L w1.heap.size ∧ Below w0.heap.size w0 (w5.alloc (.cells #[.string x] 9)) ∧ (∀ y ∈ A ++ [x], y.size ≤ 20000) ∧ (frs (A ++ [x])).length ≤ 60000) := hide ⟨FD.below hd5 hb6, log_below (ha5.log _ _ HI.out.2.1) hb6, (HI.out.2.2.1.trans ha5.below).trans (hb6.mono (FD.size hd5)), fun y hy => by
            rcases List.mem_append.1 hy with hy | hy
            · exact HI.out.2.2.2.1 y hy
            · rw [List.mem_singleton.1 hy]; exact HX.out, HF.out⟩
          have HO5 : Hid ((w5.alloc (.cells #[.string x] 9)).ownsRow w0.heap.size 9 1 (.slice q n c) n (strV A)) := hide (by
            have h := own_below (ha5.str _ _ _ _ HI.out.2.2.2.2.1) hb6
            rw [← HNA.out] at h
            exact h)
          have HT5 := hide (str_one w5 x)
          have c2 := KC.out _ (HI.out.2.2.1.trans ha5.below)
          clear hd5 ha5 c1 HI hb6
          go_wp2_with (at_builtin; refine wpList_append_strs rfl _ _ rfl w0.heap.size _ n A rfl HO5.out _ [x] rfl HT5.out (by simp; omega) HI5.out.2.2.1.size ?_)
          intro v7 w7 ho7 hg7
          have h7 : w7.ownsRow w0.heap.size 9 1 v7 (n + 1) (strV (A ++ [x])) := ho7
          obtain ⟨q7, c7, rfl⟩ := own_len h7
          have HI7 : Hid (FD w7 w0.heap.size w1.heap.size ⟨frs (A ++ [x]), 0, -1, false⟩ ∧ LogB w7 L w1.heap.size ∧ Below w0.heap.size w0 w7 ∧ (∀ y ∈ A ++ [x], y.size ≤ 20000) ∧ w7.ownsRow w0.heap.size 9 1 (.slice q7 (n + 1) c7) (A ++ [x]).length (strV (A ++ [x])) ∧ (frs (A ++ [x])).length ≤ 60000) := hide ⟨FD.grown HI5.out.1 HO5.out hg7, LogB.grown HI5.out.2.1 HO5.out hg7, HI5.out.2.2.1.grown hg7 HI5.out.2.2.1.size (fun k hk => (HO5.out.lt k hk).1), HI5.out.2.2.2.1, by rw [List.length_append, ← HNA.out]; exact h7, HI5.out.2.2.2.2⟩
          clear ho7 hg7 h7 HI5 HO5 c2 HT5
          go_wp2_with fail
          go_roundg (N - (i + 1))
          case measure => omega
          case rel => exact ⟨i + 1, n + 1, c7, q7, A ++ [x], by omega, rfl, rfl, by rw [List.length_append, ← HNA.out]; rfl, by omega, HI7⟩
        · have HP : Hid (Dv.put ⟨frs A, 0, -1, false⟩ x = (⟨frs A, 0, -1, false⟩, 10)) := hide (put_full _ _ _ HX.out (by omega))
          clear hf
          go_wp2_with fail
          refine (fput HI.out.1 HI.out.2.1 x _ HP.out).mono ?_
          rintro e w5 ⟨rfl, hd5, ha5⟩
          have HI5 : Hid (FD w5 w0.heap.size w1.heap.size ⟨frs A, 0, -1, false⟩ ∧ LogB w5 L w1.heap.size ∧ Below w0.heap.size w0 w5 ∧ (∀ x ∈ A, x.size ≤ 20000) ∧ w5.ownsRow w0.heap.size 9 1 (.slice q n c) A.length (strV A) ∧ (frs A).length ≤ 60000) := hide ⟨hd5, ha5.log _ _ HI.out.2.1, HI.out.2.2.1.trans ha5.below, HI.out.2.2.2.1, ha5.str _ _ _ _ HI.out.2.2.2.2.1, HI.out.2.2.2.2.2⟩
          clear hd5 ha5 c1 HI
          go_wp2_with fail
          go_roundg (N - (i + 1))
          case measure => omega
          case rel => exact ⟨i + 1, n, c, q, A, by omega, rfl, rfl, HNA.out, by omega, HI5⟩
    · have hd : decide ((i : Int) < (N : Int)) = false := decide_eq_false (by omega)
      obtain ⟨y0, y1⟩ := HXB.out _ HI.out.2.2.1
      obtain ⟨PP, hPP⟩ : ∃ PP, PP = Dv.put ⟨frs A, 0, x0, false⟩ t := ⟨_, rfl⟩
      obtain ⟨l, s', hOP, hlA, hcases⟩ := lasts_math A HI.out.2.2.2.1 t HTS.out x0 x1 H0.out PP hPP
      have HPP := hide hPP
      have HOP := hide hOP
      have HLA := hide hlA
      have HCS := hide hcases
      have hn20 : n ≤ 20 := by omega
      clear hPP hOP hlA hcases
      go_wp2_with fail
      refine (farm HI.out.1 x0 HX0.out).mono ?_
      rintro e w5 ⟨rfl, hd5, ha5⟩
      have HD5 : Hid (FD w5 w0.heap.size w1.heap.size ⟨frs A, 0, x0, false⟩) := hide hd5
      have HL5 := hide (ha5.log _ _ HI.out.2.1)
      have HO5 : Hid (w5.ownsRow w0.heap.size 9 1 (.slice q n c) n (strV A)) := hide (by
        have h := ha5.str _ _ _ _ HI.out.2.2.2.2.1
        rw [← HNA.out] at h
        exact h)
      have HB5 := hide (HI.out.2.2.1.trans ha5.below)
      clear hd5 ha5 HI y0 y1
      go_wp2_with fail
      refine (fput HD5.out HL5.out t PP HPP.out.symm).mono ?_
      rintro e w6 ⟨rfl, hd6, ha6⟩
      have HD6 := hide hd6
      have HO6 := hide (ha6.str _ _ _ _ HO5.out)
      have HB6 := hide (HB5.out.trans ha6.below)
      obtain ⟨y0, y1⟩ := HXB.out _ HB6.out
      clear hd6 ha6 HO5
      go_wp2_with fail
      refine (frestart HD6.out x1 HX1.out _ rfl).mono ?_
      rintro e w7 ⟨rfl, hd7, ha7⟩
      have HD7 := hide hd7
      have HO7 := hide (ha7.str _ _ _ _ HO6.out)
      have HB7 := hide (HB6.out.trans ha7.below)
      clear hd7 ha7 HO6 y0 y1
      go_wp2_with fail
      refine (fopen HD7.out l s' HOP.out).mono ?_
      rintro e w8 ⟨⟨L8, vp8, vc8, rfl, hl8, ho8⟩, hd8, ha8⟩
      obtain ⟨M, hM⟩ : ∃ M, M = l.length := ⟨_, rfl⟩
      rw [← hM] at ho8 ⊢
      have HM := hide hM
      have hM21 : M ≤ 21 := by have := HLA.out; have := HNA.out; omega
      have HO8 := hide (ha8.str _ _ _ _ HO7.out)
      have HS8 := hide ho8
      have HB8 := hide (HB7.out.trans ha8.below)
      clear hl8 ho8 hd8 ha8 hM HO7
      go_wp2_with fail
      obtain ⟨D1, hD1⟩ : ∃ D1, D1 = decide (l = A) := ⟨_, rfl⟩
      obtain ⟨D2, hD2⟩ : ∃ D2, D2 = decide (l = A ++ [t]) := ⟨_, rfl⟩
      have HD1 := hide hD1
      have HD2 := hide hD2
      refine (same_any w8 _ _ l A (own_str (by rw [← HM.out]; exact HS8.out)) (own_str (by rw [← HNA.out]; exact HO8.out)) (by rw [← HM.out]; omega) D1 HD1.out).mono ?_
      rintro e w9 ⟨rfl, hb9⟩
      have HO9 := hide (own_below HO8.out hb9)
      have HS9 := hide (own_below HS8.out hb9)
      have HB9 := hide (HB8.out.trans (hb9.mono HB8.out.size))
      clear hb9 hD1 hD2 HO8 HS8
      have HE9 := hide (own_empty w9 w9.heap.size (Nat.le_refl _))
      have hb10 : Below w9.heap.size w9 (w9.alloc (.cells #[] 9)) := (Below.refl _ _).alloc (Nat.le_refl _) _
      have HO10 := hide (own_str (ss := A) (by rw [← HNA.out]; exact own_below HO9.out hb10))
      have HSK : Hid (∀ k, (Value.slice vp8 M vc8).ownBlock = some k → k < w9.heap.size) := hide (fun k hk => (HS9.out.lt k hk).2)
      have HS10 := hide (own_below HS9.out hb10)
      have HW10 : Hid (Below w9.heap.size w9 (w9.alloc (.cells #[] 9))) := hide hb10
      clear hb10
      go_wp2_with (at_builtin; refine wpList_append_strs rfl _ _ rfl w9.heap.size _ 0 [] rfl HE9.out _ A rfl HO10.out (by rw [← HNA.out]; omega) HW10.out.size ?_)
      intro v11 w11 ho11 hg11
      have h11 : w11.ownsRow w9.heap.size 9 1 v11 n (strV A) := by rw [HNA.out]; exact ho11
      obtain ⟨p11, c11, rfl⟩ := own_len h11
      have HW11 : Hid (Below w9.heap.size w9 w11) := hide (HW10.out.grown hg11 HW10.out.size (fun k hk => (HE9.out.lt k hk).1))
      have HS11 := hide (HS10.out.kept hg11 (kept_of (fun k hv e => by
        have h1 := HSK.out k hv
        have h2 := (HE9.out.lt k e).1
        omega)))
      have hb12 : Below w11.heap.size w11 (w11.alloc (.cells #[.string t] 9)) := (Below.refl _ _).alloc (Nat.le_refl _) _
      have HO12 := hide (own_below h11 hb12)
      have HS12 := hide (own_below HS11.out hb12)
      have HT12 := hide (str_one w11 t)
      have HW12 : Hid (Below w9.heap.size w9 (w11.alloc (.cells #[.string t] 9))) := hide (HW11.out.trans (hb12.mono HW11.out.size))
      clear hb12 h11 ho11 hg11
      go_wp2_with (at_builtin; refine wpList_append_strs rfl _ _ rfl w9.heap.size _ n A rfl HO12.out _ [t] rfl HT12.out (by simp; omega) HW12.out.size ?_)
      intro v13 w13 ho13 hg13
      have h13 : w13.ownsRow w9.heap.size 9 1 v13 (n + 1) (strV (A ++ [t])) := ho13
      obtain ⟨p13, c13, rfl⟩ := own_len h13
      have HW13 : Hid (Below w9.heap.size w9 w13) := hide (HW12.out.grown hg13 HW12.out.size (fun k hk => (HO12.out.lt k hk).1))
      have HS13 := hide (HS12.out.kept hg13 (kept_of (fun k hv e => by
        have h1 := HSK.out k hv
        have h2 := (HO12.out.lt k e).1
        omega)))
      have hl1 : (A ++ [t]).length = n + 1 := by rw [List.length_append, HNA.out]; rfl
      have HR13 : Hid (StrArg w13 (.slice p13 (n + 1) c13) (A ++ [t])) := hide (own_str (ss := A ++ [t]) (by rw [hl1]; exact h13))
      clear h13 ho13 hg13 hl1
      go_wp2_with fail
      refine (same_any w13 _ _ l (A ++ [t]) (own_str (by rw [← HM.out]; exact HS13.out)) HR13.out (by rw [← HM.out]; omega) D2 HD2.out).mono ?_
      rintro e w14 ⟨rfl, hb14⟩
      have HB14 : Hid (Below w.heap.size w w14) := hide (HB0.out.trans (((HB9.out.trans (HW13.out.mono HB9.out.size)).trans (hb14.mono (Nat.le_trans HB9.out.size HW13.out.size))).mono HB0.out.size))
      clear hb14
      obtain ⟨P1, E⟩ := PP
      have hcs := HCS.out
      have q1 := HD1.out
      have q2 := HD2.out
      clear HCS HD1 HD2 HPP HD6 HD7 HOP
      rcases hcs with ⟨h1, h2⟩ | ⟨h1, h2⟩ | ⟨h1, h2⟩
      · have hE : E = 0 := h1
        have hq : D2 = true := by rw [q2]; exact decide_eq_true h2
        subst hE
        subst hq
        clear q1 q2 h1 h2
        go_wp2_with fail
        go_ret
        exact ⟨rfl, HB14.out⟩
      · have hE : E = 10 := h1
        have hq : D1 = true := by rw [q1]; exact decide_eq_true h2
        subst hE
        subst hq
        clear q1 q2 h1 h2
        go_wp2_with fail
        go_ret
        exact ⟨rfl, HB14.out⟩
      · have hE : E = 11 := h1
        subst hE
        rcases h2 with h2 | h2
        · have hq : D1 = true := by rw [q1]; exact decide_eq_true h2
          subst hq
          clear q1 q2 h1 h2
          go_wp2_with fail
          go_ret
          exact ⟨rfl, HB14.out⟩
        · have hq : D2 = true := by rw [q2]; exact decide_eq_true h2
          subst hq
          clear q1 q2 h1 h2
          cases D1
          · go_wp2_with fail
            go_ret
            exact ⟨rfl, HB14.out⟩
          · go_wp2_with fail
            go_ret
            exact ⟨rfl, HB14.out⟩
end Go.Proofs.Ytipebinjdicnfaa
