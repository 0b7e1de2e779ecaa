/-
  The law UtfFixes, walked: it answers true at all bytes.
-/
import Derived.Test.YtnjdmkkifdiedaaR3
namespace Go.Proofs.Ytnjdmkkifdiedaa
open Go.RowKit
open Utf1

/-- What one character is fixed to, by what stands behind it. -/
def oneQ (r : Nat) (next : Option Nat) : List Nat := if r = 0 then [65533] else if r = 13 then (if next = some 10 then [] else [10]) else [r]
def restQ (s : ByteArray) (pos : Nat) : List UInt8 := enc (fixQ (runes ((bl s).drop pos)))
theorem restQ_step (s : ByteArray) (pos r wd : Nat) (h : pos < s.size) (hd : dl ((bl s).drop pos) = (r, wd)) : restQ s pos = enc (oneQ r (runes ((bl s).drop (pos + wd))).head?) ++ restQ s (pos + wd) := by
  unfold restQ oneQ
  rw [runes_drop s pos r wd h hd, fixQ, enc_append]
theorem restQ_end (s : ByteArray) (pos : Nat) (h : ¬ pos < s.size) : restQ s pos = [] := by
  unfold restQ
  rw [drop_all s pos h, runes_nil]
  rfl
/-- The next rune is 10 just if the next byte is. -/
theorem head_ten (s : ByteArray) (pos : Nat) : (runes ((bl s).drop pos)).head? = some 10 ↔ pos < s.size ∧ atN ((bl s).drop pos) 0 = 10 := by
  by_cases h : pos < s.size
  · have hne := drop_ne s pos h
    rw [runes_step _ hne]
    simp only [List.head?_cons, Option.some.injEq, h, true_and]
    rcases dl_cases _ hne with ⟨h0, hd⟩ | ⟨r, t, hr, he, hd, hrt⟩
    · rw [hd]
      constructor
      · intro e; exact absurd e (by decide)
      · intro e
        have : rt ((bl s).drop pos) = 1 := by
          unfold rt rtN
          rw [if_neg (by rw [List.length_drop, bl_len]; omega), e]
          rfl
        omega
    · rw [hd]
      show r = 10 ↔ _
      have hat : atN ((bl s).drop pos) 0 = atN (er r ++ t) 0 := by rw [he]
      rw [hat]
      rcases er_bytes r hr with ⟨hl, e⟩ | ⟨hl, e⟩
      · rw [e]
        show _ ↔ (UInt8.ofNat r).toNat = 10
        rw [toNat_ofNat (by omega)]
      · have hp := er_len r
        obtain ⟨x, y, hxy⟩ : ∃ x y, er r = x :: y := by
          cases hh : er r with
          | nil => rw [hh] at hp; simp at hp
          | cons x y => exact ⟨x, y, rfl⟩
        have hx := e x (by rw [hxy]; simp)
        rw [hxy]
        show _ ↔ x.toNat = 10
        omega
  · rw [drop_all s pos h, runes_nil]
    simp [h]

/-- Bytes as cells. -/
theorem info_u8 : (Try.prog.info? 5).map (fun i => (i.zero, i.size, i.bytes)) = some (some (.int .u8 0), 1, 1) := by kernel_rfl

theorem cells_new (w : World) (l : List UInt8) : ∀ j u, (Lib.byteCells l)[j]? = some u → (w.alloc (.cells (Lib.byteCells l).toArray 5)).cell? ((⟨w.heap.size, 0, none⟩ : Addr).add j) = some u := by
  intro j u hj
  have h := World.cell?_alloc_mark w (Lib.byteCells l).toArray 5 (0, 0) j
  rw [add_zero_at]
  rw [List.getElem?_toArray, hj] at h
  exact h
theorem cells_one (l : List UInt8) : ∀ u ∈ Lib.byteCells l, u.oneCell' = true := by
  intro u hu
  unfold Lib.byteCells at hu
  rw [List.mem_map] at hu
  obtain ⟨b, _, rfl⟩ := hu
  rfl
theorem own_isBytes {w : World} {B : Nat} {v : Value} {l : List UInt8} (h : w.ownsRow B 5 1 v l.length (Lib.byteCells l)) : IsBytes w v l := by
  rcases h.2 with ⟨rfl, h0⟩ | ⟨g, cap, cur, rfl, _, hg, hnc, _, hcs, hx⟩
  · exact .inl ⟨rfl, List.length_eq_zero_iff.1 h0⟩
  · refine .inr ⟨⟨g, 0, none⟩, cap, rfl, fun j hj => ?_⟩
    rw [add_zero_at]
    unfold World.cell?
    rw [hg]
    have h2 : (cur.toList.take (l.length * 1))[j]? = (Lib.byteCells l)[j]? := by rw [hx]
    rw [List.getElem?_take_of_lt (by omega)] at h2
    have h3 : (Lib.byteCells l)[j]? = some (.int .u8 (l[j].toNat : Int)) := by simp [Lib.byteCells, hj]
    rw [h3, Array.getElem?_toList] at h2
    simpa using h2
theorem own_more {w : World} {B : Nat} {v : Value} {n : Nat} {a b : List UInt8} (h : w.ownsRow B 5 1 v n (Lib.byteCells a ++ Lib.byteCells b)) (hn : n = (a ++ b).length) : w.ownsRow B 5 1 v (a ++ b).length (Lib.byteCells (a ++ b)) := by
  rw [Lib.byteCells_append, ← hn]
  exact h
/-- The first byte of a rune's bytes. -/
theorem er_first (q : Nat) (hq : Scalar q) (t : List UInt8) (k : Nat) (hk : k < 128) : atN (er q ++ t) 0 = k ↔ q = k := by
  rcases er_bytes q hq with ⟨hl, e⟩ | ⟨hl, e⟩
  · rw [e]
    show (UInt8.ofNat q).toNat = k ↔ _
    rw [toNat_ofNat (by omega)]
  · have hp := er_len q
    obtain ⟨x, y, hxy⟩ : ∃ x y, er q = x :: y := by
      cases hh : er q with
      | nil => rw [hh] at hp; simp at hp
      | cons x y => exact ⟨x, y, rfl⟩
    have hx := e x (by rw [hxy]; simp)
    rw [hxy]
    show x.toNat = k ↔ _
    omega

set_option maxHeartbeats 4000000 in
theorem rfix_str (v : Value) (s : ByteArray) (w : World) (hv : (convert 22 9 v).run Try.prog w = .ok (.string s) w) (hs : s.size ≤ 100000) :
    Calls Try.prog 11 #[v] w fun e w' => e = .returned (.string ⟨(fix (bl s)).toArray⟩) ∧ Below w.heap.size w w' := by
  obtain ⟨i0, hi, hz0, hz1, hz2⟩ := info_parts info_u8
  have HF := hide (fix_fixQ (bl s))
  go_enter Try.func11, Try.ntmps11
  go_wp2
  clear hv
  go_loopw [4, 5] (fun o i wr => ∃ (pos : Nat) (acc : List UInt8), pos ≤ s.size ∧ i = .int .i64 pos ∧ wr.ownsRow w.heap.size 5 1 o acc.length (Lib.byteCells acc) ∧ Below w.heap.size w wr ∧ Hid (acc ++ restQ s pos = fix (bl s)) ∧ acc.length ≤ 4 * pos) (fun _ i _ => s.size - (intOf i).toNat)
  case atStart => exact ⟨0, [], Nat.zero_le _, rfl, World.ownsRow_nil _ _ _ _, Below.refl _ _, hide HF.out.symm, Nat.le_refl _⟩
  case round =>
    obtain ⟨pos, acc, hp, rfl, hown, hbw, HA, hal⟩ := hrel
    have hbs := hbw.size
    by_cases hlt : pos < s.size
    · have hc := fun w => right_ref s pos w hs hlt
      have hle := rt_le ((bl s).drop pos)
      have hne := drop_ne s pos hlt
      have i0x : ∀ w, (Instr.index 9 (.string s) (.int .i64 (pos : Int))).run Try.prog w = .ok (.int .u8 (atN ((bl s).drop pos) 0 : Nat)) w := idx_run s pos 0 hlt
      rw [List.length_drop, bl_len] at hle
      obtain ⟨hr4, hrs⟩ := hle
      by_cases h0 : rt ((bl s).drop pos) = 0
      · have hst := restQ_step s pos 65533 1 hlt (dl_bad _ h0 hne)
        rw [h0] at hc
        have HC := hide hc
        have HST := hide hst
        clear hc hst h0 hr4 hrs hne i0x
        go_wp2_with (first
          | (go_at_call 23; refine (HC.out _).mono ?_; rintro e w1 ⟨rfl, rfl⟩)
          | (at_builtin; refine wpList_append_own _ rfl (.tmp 33) (.tmp 34) 22 rfl w.heap.size 5 i0 (.int .u8 0) 1 1 Try.underlying22 hi hz0 hz1 hz2 rfl (by decide) _ _ _ rfl (hown.alloc _) ⟨wr.heap.size, 0, none⟩ 3 3 (Lib.byteCells [239, 191, 189]) rfl rfl ?_ ?_ ?_ ?_ ?_ ?_))
        · exact cells_new wr [239, 191, 189]
        · exact cells_one _
        · unfold maxLen; omega
        · omega
        · simp; omega
        · intro v' w1 hown' hgrow _
          have hb2 : Below w.heap.size w w1 := (hbw.alloc hbs _).grown hgrow (by simp; omega) (own_ge hown)
          have HO := hide (own_more hown' (by simp))
          clear hown' hgrow hown
          go_wp2
          go_roundw
          case rel =>
            refine ⟨pos + 1, acc ++ [239, 191, 189], by omega, by go_num, HO.out, hb2, hide ?_, by simp; omega⟩
            rw [← HA.out, HST.out, List.append_assoc]
            congr 1
          case measure => simp [intOf]; omega
      · obtain ⟨q, t, hq, he, hd, hrt⟩ := dl_good _ h0
        have hst := restQ_step s pos q (er q).length hlt hd
        have hf0 := er_first q hq t 0 (by decide)
        have hf13 := er_first q hq t 13 (by decide)
        rw [← he] at hf0 hf13
        by_cases q0 : q = 0
        · subst q0
          have hl1 : (er 0).length = 1 := by decide
          rw [hl1] at hst hrt
          rw [hrt] at hc
          rw [hf0.2 rfl] at i0x
          have HC := hide hc
          have HST := hide hst
          clear hc hst h0 hr4 hrs hne hd he hf0 hf13 hrt hl1
          go_wp2_with (first
            | (go_at_call 23; refine (HC.out _).mono ?_; rintro e w1 ⟨rfl, rfl⟩)
            | (at_builtin; refine wpList_append_own _ rfl (.tmp 33) (.tmp 34) 22 rfl w.heap.size 5 i0 (.int .u8 0) 1 1 Try.underlying22 hi hz0 hz1 hz2 rfl (by decide) _ _ _ rfl (hown.alloc _) ⟨wr.heap.size, 0, none⟩ 3 3 (Lib.byteCells [239, 191, 189]) rfl rfl ?_ ?_ ?_ ?_ ?_ ?_))
          · exact cells_new wr [239, 191, 189]
          · exact cells_one _
          · unfold maxLen; omega
          · omega
          · simp; omega
          · intro v' w1 hown' hgrow _
            have hb2 : Below w.heap.size w w1 := (hbw.alloc hbs _).grown hgrow (by simp; omega) (own_ge hown)
            have HO := hide (own_more hown' (by simp))
            clear hown' hgrow hown
            go_wp2
            go_roundw
            case rel =>
              refine ⟨pos + 1, acc ++ [239, 191, 189], by omega, by go_num, HO.out, hb2, hide ?_, by simp; omega⟩
              rw [← HA.out, HST.out, List.append_assoc]
              congr 1
            case measure => simp [intOf]; omega
        · by_cases q13 : q = 13
          · subst q13
            have hl1 : (er 13).length = 1 := by decide
            rw [hl1] at hst hrt
            rw [hrt] at hc
            rw [hf13.2 rfl] at i0x
            have HC := hide hc
            have hht := head_ten s (pos + 1)
            by_cases hend : pos + 1 < s.size
            · have i1x : ∀ w, (Instr.index 9 (.string s) (.int .i64 ((pos : Int) + 1))).run Try.prog w = .ok (.int .u8 (atN ((bl s).drop (pos + 1)) 0 : Nat)) w := idx_run s (pos + 1) 0 hend
              have tE : ((pos : Int) + 1 == (s.size : Int)) = false := beq_eq_false_iff_ne.2 (by omega)
              by_cases h10 : atN ((bl s).drop (pos + 1)) 0 = 10
              · have HST : Hid (restQ s pos = restQ s (pos + 1)) := hide (by rw [hst, oneQ, if_neg (by decide), if_pos rfl, if_pos (hht.2 ⟨hend, h10⟩), enc_nil, List.nil_append])
                rw [h10] at i1x
                clear hc hst h0 hr4 hrs hne hd he hf0 hf13 hrt hl1 hht h10
                go_wp2_with (go_at_call 23; refine (HC.out _).mono ?_; rintro e w1 ⟨rfl, rfl⟩)
                go_roundw
                case rel =>
                  refine ⟨pos + 1, acc, by omega, by go_num, hown, hbw, hide ?_, by omega⟩
                  rw [← HA.out, HST.out]
                case measure => simp [intOf]; omega
              · have HST : Hid (restQ s pos = [10] ++ restQ s (pos + 1)) := hide (by rw [hst, oneQ, if_neg (by decide), if_pos rfl, if_neg (fun e => h10 (hht.1 e).2)]; rfl)
                generalize atN ((bl s).drop (pos + 1)) 0 = c at *
                have tN : ((c : Int) != 10) = true := by rw [bne_iff_ne]; omega
                clear hc hst h0 hr4 hrs hne hd he hf0 hf13 hrt hl1 hht h10
                go_wp2_with (first
                  | (go_at_call 23; refine (HC.out _).mono ?_; rintro e w1 ⟨rfl, rfl⟩)
                  | (at_builtin; refine wpList_append_own _ rfl (.tmp 53) (.tmp 54) 22 rfl w.heap.size 5 i0 (.int .u8 0) 1 1 Try.underlying22 hi hz0 hz1 hz2 rfl (by decide) _ _ _ rfl (hown.alloc _) ⟨wr.heap.size, 0, none⟩ 1 1 (Lib.byteCells [10]) rfl rfl ?_ ?_ ?_ ?_ ?_ ?_))
                · exact cells_new wr [10]
                · exact cells_one _
                · unfold maxLen; omega
                · omega
                · simp; omega
                · intro v' w1 hown' hgrow _
                  have hb2 : Below w.heap.size w w1 := (hbw.alloc hbs _).grown hgrow (by simp; omega) (own_ge hown)
                  have HO := hide (own_more hown' (by simp))
                  clear hown' hgrow hown
                  go_wp2
                  go_roundw
                  case rel =>
                    refine ⟨pos + 1, acc ++ [10], by omega, by go_num, HO.out, hb2, hide ?_, by simp; omega⟩
                    rw [← HA.out, HST.out, List.append_assoc]
                  case measure => simp [intOf]; omega
            · have tE : ((pos : Int) + 1 == (s.size : Int)) = true := beq_iff_eq.2 (by omega)
              have HST : Hid (restQ s pos = [10] ++ restQ s (pos + 1)) := hide (by rw [hst, oneQ, if_neg (by decide), if_pos rfl, if_neg (fun e => hend (hht.1 e).1)]; rfl)
              clear hc hst h0 hr4 hrs hne hd he hf0 hf13 hrt hl1 hht
              go_wp2_with (first
                | (go_at_call 23; refine (HC.out _).mono ?_; rintro e w1 ⟨rfl, rfl⟩)
                | (at_builtin; refine wpList_append_own _ rfl (.tmp 53) (.tmp 54) 22 rfl w.heap.size 5 i0 (.int .u8 0) 1 1 Try.underlying22 hi hz0 hz1 hz2 rfl (by decide) _ _ _ rfl (hown.alloc _) ⟨wr.heap.size, 0, none⟩ 1 1 (Lib.byteCells [10]) rfl rfl ?_ ?_ ?_ ?_ ?_ ?_))
              · exact cells_new wr [10]
              · exact cells_one _
              · unfold maxLen; omega
              · omega
              · simp; omega
              · intro v' w1 hown' hgrow _
                have hb2 : Below w.heap.size w w1 := (hbw.alloc hbs _).grown hgrow (by simp; omega) (own_ge hown)
                have HO := hide (own_more hown' (by simp))
                clear hown' hgrow hown
                go_wp2
                go_roundw
                case rel =>
                  refine ⟨pos + 1, acc ++ [10], by omega, by go_num, HO.out, hb2, hide ?_, by simp; omega⟩
                  rw [← HA.out, HST.out, List.append_assoc]
                case measure => simp [intOf]; omega
          · have htk : bl (s.extract pos (pos + (er q).length)) = er q := by
              rw [extract_mid, Nat.add_sub_cancel_left]
              show ((bl s).drop pos).take (er q).length = er q
              rw [he]
              simp
            have HST : Hid (restQ s pos = er q ++ restQ s (pos + (er q).length)) := hide (by rw [hst, oneQ, if_neg q0, if_neg q13, enc_one])
            rw [hrt] at hc hr4 hrs
            have hl1 := (er_len q).1
            have t0 : atN ((bl s).drop pos) 0 ≠ 0 := fun e => q0 (hf0.1 e)
            have t13 : atN ((bl s).drop pos) 0 ≠ 13 := fun e => q13 (hf13.1 e)
            generalize atN ((bl s).drop pos) 0 = c at *
            have tb0 : ((c : Int) == 0) = false := beq_eq_false_iff_ne.2 (by omega)
            have tb13 : ((c : Int) == 13) = false := beq_eq_false_iff_ne.2 (by omega)
            have HL := hide (show (er q).length = (er q).length from rfl)
            generalize hz : (er q).length = z at *
            have tz : ((z : Int) == 0) = false := beq_eq_false_iff_ne.2 (by omega)
            have HC := hide hc
            have HTK := hide htk
            have HZ := hide hz
            have hxs : (s.extract pos (pos + z)).size = z := by simp; omega
            have HXS := hide hxs
            clear hc hst h0 hne hd he hf0 hf13 hrt t0 t13 htk hz HL hxs
            go_wp2_with (first
              | (go_at_call 23; refine (HC.out _).mono ?_; rintro e w1 ⟨rfl, rfl⟩)
              | (at_builtin; refine Lib.wpList_append_own_string _ rfl (.tmp 16) (.tmp 22) 22 9 rfl w.heap.size 5 i0 Try.underlying22 Try.underlying9 hi hz0 hz1 hz2 _ _ _ rfl hown (s.extract pos (pos + z)) rfl ?_ ?_ ?_ ?_))
            · rw [HXS.out]; unfold maxLen; omega
            · rw [HXS.out]; omega
            · omega
            · intro v' w1 hown' hgrow _
              have hb2 : Below w.heap.size w w1 := hbw.grown hgrow hbs (own_ge hown)
              have HO : Hid (w1.ownsRow w.heap.size 5 1 v' (acc ++ er q).length (Lib.byteCells (acc ++ er q))) := by
                rw [show min (pos + z) s.size - pos = z from by omega] at hown'
                refine own_more (a := acc) (b := er q) (n := acc.length + z) ?_ (by rw [List.length_append, HZ.out])
                rw [← HTK.out]
                exact hown'
              clear hown' hgrow hown
              go_wp2
              go_roundw
              case rel =>
                refine ⟨pos + z, acc ++ er q, by omega, by go_num, HO.out, hb2, hide ?_, by rw [List.length_append, HZ.out]; omega⟩
                rw [← HA.out, HST.out, List.append_assoc]
              case measure => simp [intOf]; omega
    · have hcb := (own_isBytes hown).conv
      go_wp2
      go_ret
      have := HA.out
      rw [restQ_end s pos hlt, List.append_nil] at this
      rw [this]
      exact ⟨rfl, hbw⟩

theorem below3f {w w1 w2 w3 : World} (hb1 : Below w.heap.size w w1) (hb2 : Below w1.heap.size w1 w2) (hb3 : Below w2.heap.size w2 w3) : Below w.heap.size w w3 := by
  have s1 := hb1.size
  have s2 := hb2.size
  exact (hb1.trans (hb2.mono s1)).trans (hb3.mono (by omega))

set_option maxHeartbeats 1000000 in
theorem lawFixes_walk (a : Option Addr) (n cap : Nat) (l : List UInt8) (w : World) (hB : IsBytes w (.slice a n cap) l) :
    Calls Try.prog 3 #[.slice a n cap] w fun e w' => e = .returned (.bool true) ∧ Below w.heap.size w w' := by
  have hn := hB.len
  by_cases hbig : 5000 < n
  · have t1 : decide ((5000 : Int) < (n : Int)) = true := by simp; omega
    clear hn
    go_enter Try.func3, Try.ntmps3
    go_wp2_with (go_at_call 9; refine (awake_any _).mono ?_; rintro e w1 ⟨rfl, hb1⟩)
    go_ret
    exact ⟨rfl, hb1⟩
  · have t1 : decide ((5000 : Int) < (n : Int)) = false := by simp; omega
    have F1 : Hid (∀ w : World, IsBytes w (.slice a n cap) l → Calls Try.prog 10 #[.slice a n cap] w fun e w' => e = .returned (.string ⟨(fix l).toArray⟩) ∧ Below w.heap.size w w') := fun w h => fix_any _ l w h (by omega)
    have F2 : Hid (∀ w : World, IsBytes w (.slice a n cap) l → Calls Try.prog 11 #[.slice a n cap] w fun e w' => e = .returned (.string ⟨(fix l).toArray⟩) ∧ Below w.heap.size w w') :=
      fun w h => rfix_str _ ⟨l.toArray⟩ w h.conv (by show l.toArray.size ≤ _; rw [List.size_toArray]; omega)
    generalize (⟨(fix l).toArray⟩ : ByteArray) = T at *
    have HB := hide hB
    clear hB hn
    go_enter Try.func3, Try.ntmps3
    go_wp2_with fail
    refine (awake_any _).mono ?_
    rintro e w1 ⟨rfl, hb1⟩
    have HB1 := hide (HB.out.below hb1)
    go_wp2_with fail
    refine (F1.out _ HB1.out).mono ?_
    rintro e w2 ⟨rfl, hb2⟩
    have HB2 := hide (HB1.out.below hb2)
    go_wp2_with fail
    refine (F2.out _ HB2.out).mono ?_
    rintro e w3 ⟨rfl, hb3⟩
    go_wp2_with fail
    go_ret
    exact ⟨ret_bool (by simp), below3f hb1 hb2 hb3⟩
end Go.Proofs.Ytnjdmkkifdiedaa
