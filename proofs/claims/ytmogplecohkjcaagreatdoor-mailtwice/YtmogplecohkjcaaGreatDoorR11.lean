/-
  The program's own number, lines cut off, lists cut off.
-/
import Derived.Test.YtmogplecohkjcaaGreatDoorR6
import Derived.Test.YtmogplecohkjcaaGreatDoorHR
import Derived.Test.YtmogplecohkjcaaGreatDoorPD
import Derived.Lib.Strings
namespace Go.Proofs.YtmogplecohkjcaaGreatDoor
open Go.RowKit
open Utf1 Pol8

theorem below_bytes (w : World) (t : ByteArray) : Below w.heap.size w (Lib.bytesWorld w 5 t) := Go.Joins.below_bytesWorld _ w _ t (Nat.le_refl _)
set_option maxHeartbeats 4000000 in
theorem pnumber_any (s : ByteArray) (hs : s.size ≤ 100000) (w : World) (hg : GlobE w) :
    Calls Tryz.prog 108 #[.string s] w fun e w' => e = .returned (.int .i64 (numA (bl s))) ∧ Below w.heap.size w w' := by
  obtain ⟨R, hR⟩ : ∃ R, R = numA (bl s) := ⟨_, rfl⟩
  rw [← hR]
  have HAL := hide hR
  clear hR
  cases h : Lib.atoiAll s.data.toList with
  | ok v =>
    have c1 := Tryz.strconv_Atoi_ok s (by omega) v h w
    have HR : Hid (R = v) := hide (by rw [HAL.out]; unfold numA; rw [show Lib.atoiAll (bl s) = _ from h])
    have C1 : Hid (Calls Tryz.prog 94 #[.string s] w fun e w' => e = .returned (.tuple #[.int .i64 v, .nilIface]) ∧ Below w.heap.size w w') := hide (c1.mono fun e w' ⟨h1, h2⟩ => ⟨h1, by
      rcases h2 with rfl | ⟨t, rfl⟩
      · exact Below.refl _ _
      · exact below_bytes w t⟩)
    clear c1 h HAL hg
    go_enter Tryz.func108, Tryz.ntmps108
    go_wp2_with fail
    refine C1.out.mono ?_
    rintro e w1 ⟨rfl, h1⟩
    have H1 := hide h1
    clear h1 C1
    go_wp2_with fail
    go_ret
    rw [HR.out]
    exact ⟨rfl, H1.out⟩
  | «syntax» =>
    obtain ⟨te, pe, hc⟩ := hg.1
    have C1 := hide (Tryz.strconv_Atoi_syntax s (by omega) h _ w hc (.inr ⟨te, pe, rfl⟩))
    have HR : Hid (R = 0) := hide (by rw [HAL.out]; unfold numA; rw [show Lib.atoiAll (bl s) = _ from h])
    clear h HAL hc hg
    go_enter Tryz.func108, Tryz.ntmps108
    go_wp2_with fail
    refine C1.out.mono ?_
    rintro e w1 ⟨n, rfl, -, -, h1⟩
    have H1 := hide h1
    clear h1 C1
    go_wp2_with fail
    go_ret
    rw [HR.out]
    exact ⟨rfl, H1.out⟩
  | range =>
    obtain ⟨te, pe, hc⟩ := hg.2
    have C1 := hide (Tryz.strconv_Atoi_range s (by omega) h _ w hc (.inr ⟨te, pe, rfl⟩))
    have HR : Hid (R = 0) := hide (by rw [HAL.out]; unfold numA; rw [show Lib.atoiAll (bl s) = _ from h])
    clear h HAL hc hg
    go_enter Tryz.func108, Tryz.ntmps108
    go_wp2_with fail
    refine C1.out.mono ?_
    rintro e w1 ⟨n, rfl, -, -, h1⟩
    have H1 := hide h1
    clear h1 C1
    go_wp2_with fail
    go_ret
    rw [HR.out]
    exact ⟨rfl, H1.out⟩

theorem mk_bl (s : ByteArray) : (⟨(bl s).toArray⟩ : ByteArray) = s := by
  apply ba_ext
  rfl
/-- strings.Cut at one byte. -/
theorem pcut_any (c : UInt8) (s : ByteArray) (hs : s.size ≤ 100000) (w : World) :
    Calls Tryz.prog 49 #[.string s, .string ⟨#[c]⟩] w fun e w' => e = .returned (.tuple #[.string ⟨(fst' c (bl s)).toArray⟩, .string ⟨(snd' c (bl s)).toArray⟩, .bool (cutB c (bl s)).isSome]) ∧ Below w.heap.size w w' := by
  by_cases hd : c ∈ bl s
  · obtain ⟨n, a, hna, hn, hsz, -, -, -⟩ := split_ba s c hd
    have := cut_some s c n a hna hn hs w
    rw [hna, (fst_some c _ _ hn).1, (fst_some c _ _ hn).2, cutB_some c _ _ hn, mk_bl, mk_bl]
    exact this
  · have := cut_none s c hd w
    rw [(fst_none c _ hd).1, (fst_none c _ hd).2, cutB_none c _ hd, mk_bl]
    exact this.mono fun _ _ ⟨h1, h2⟩ => ⟨h1, h2⟩

theorem pref_starts (s k : L) : Lib.hasPrefix s (k ++ [32]) = starts k s := by
  unfold starts
  rw [← Lib.hasPrefix_of_take]
  have e : (k ++ [32] : L).length = k.length + 1 := by simp
  rw [e]
  by_cases h : s.take (k.length + 1) = k ++ [32]
  · have h2 : k.length + 1 ≤ s.length := by
      have := congrArg List.length h
      rw [List.length_take, e] at this
      omega
    rw [decide_eq_true h, decide_eq_true h2]
    simpa using h
  · rw [decide_eq_false h]
    exact Bool.and_eq_false_iff.2 (.inr (beq_eq_false_iff_ne.2 h))
set_option maxHeartbeats 4000000 in
theorem pcutLine_any (s k : ByteArray) (hs : s.size ≤ 100000) (hk : k.size ≤ 100) (w : World) :
    Calls Tryz.prog 107 #[.string s, .string k] w fun e w' => e = .returned (.tuple #[.string ⟨(lineOf (bl k) (bl s)).toArray⟩, .string ⟨(restOf (bl k) (bl s)).toArray⟩, .bool (cutL (bl k) (bl s)).isSome]) ∧ Below w.heap.size w w' := by
  have c1 := fun w => Tryz.strings_CutPrefix s (k ++ ⟨#[32]⟩) w
  have eP : Lib.hasPrefix s.data.toList (k ++ ⟨#[32]⟩ : ByteArray).data.toList = starts (bl k) (bl s) := by
    rw [show (k ++ ⟨#[32]⟩ : ByteArray).data.toList = bl k ++ [32] from app_bl _ _]
    exact pref_starts _ _
  have eL : (k ++ ⟨#[32]⟩ : ByteArray).data.toList.length = (bl k).length + 1 := by
    rw [show (k ++ ⟨#[32]⟩ : ByteArray).data.toList = bl k ++ [32] from app_bl _ _]
    simp
  unfold Lib.trimPrefix at c1
  rw [eP, eL] at c1
  clear eP eL
  cases hst : starts (bl k) (bl s) with
  | false =>
    have HE : Hid (cutL (bl k) (bl s) = none) := hide (by unfold cutL; rw [if_neg (by rw [hst]; decide)])
    have HL : Hid (lineOf (bl k) (bl s) = [] ∧ restOf (bl k) (bl s) = bl s) := hide (by unfold lineOf restOf; rw [HE.out]; exact ⟨rfl, rfl⟩)
    rw [hst, if_neg (by decide), show (⟨s.data.toList.toArray⟩ : ByteArray) = s from mk_bl s] at c1
    have c2 := fun w => pcut_any 10 s hs w
    rw [HL.out.1, HL.out.2, HE.out, mk_bl]
    clear hst HE HL
    generalize (⟨(fst' 10 (bl s)).toArray⟩ : ByteArray) = X1 at c2
    generalize (⟨(snd' 10 (bl s)).toArray⟩ : ByteArray) = X2 at c2
    generalize (cutB 10 (bl s)).isSome = X3 at c2
    go_enter Tryz.func107, Tryz.ntmps107
    go_wp2_with fail
    refine (c1 _).mono ?_
    rintro e w1 ⟨rfl, rfl⟩
    go_wp2_with fail
    refine (c2 _).mono ?_
    rintro e w2 ⟨rfl, hb⟩
    clear c1 c2
    go_wp2_with fail
    go_ret3
    exact ⟨rfl, hb⟩
  | true =>
    obtain ⟨D, hD⟩ : ∃ D : ByteArray, D = ⟨((bl s).drop ((bl k).length + 1)).toArray⟩ := ⟨_, rfl⟩
    have hDb : bl D = (bl s).drop ((bl k).length + 1) := by rw [hD]
    have hDs : D.size ≤ 100000 := by rw [← bl_len, hDb, List.length_drop, bl_len]; omega
    rw [hst, if_pos rfl, show (⟨(s.data.toList.drop ((bl k).length + 1)).toArray⟩ : ByteArray) = D from hD.symm] at c1
    have c2 := fun w => pcut_any 10 D hDs w
    have HE : Hid (cutL (bl k) (bl s) = cutB 10 (bl D)) := hide (by unfold cutL; rw [if_pos hst, hDb])
    clear hst hD hDb
    cases hcb : cutB 10 (bl D) with
    | none =>
      have HL : Hid (lineOf (bl k) (bl s) = [] ∧ restOf (bl k) (bl s) = bl s) := hide (by unfold lineOf restOf; rw [HE.out, hcb]; exact ⟨rfl, rfl⟩)
      rw [HL.out.1, HL.out.2, HE.out, hcb, mk_bl]
      rw [hcb] at c2
      clear HE HL hcb
      generalize (⟨(fst' 10 (bl D)).toArray⟩ : ByteArray) = X1 at c2
      generalize (⟨(snd' 10 (bl D)).toArray⟩ : ByteArray) = X2 at c2
      go_enter Tryz.func107, Tryz.ntmps107
      go_wp2_with fail
      refine (c1 _).mono ?_
      rintro e w1 ⟨rfl, rfl⟩
      go_wp2_with fail
      refine (c2 _).mono ?_
      rintro e w2 ⟨rfl, hb⟩
      clear c1 c2
      go_wp2_with fail
      go_ret3
      exact ⟨rfl, hb⟩
    | some x =>
      have HL : Hid (lineOf (bl k) (bl s) = fst' 10 (bl D) ∧ restOf (bl k) (bl s) = snd' 10 (bl D)) := hide (by unfold lineOf restOf fst' snd'; rw [HE.out, hcb]; exact ⟨rfl, rfl⟩)
      rw [HL.out.1, HL.out.2, HE.out, hcb]
      rw [hcb] at c2
      clear HE HL hcb
      generalize (⟨(fst' 10 (bl D)).toArray⟩ : ByteArray) = X1 at c2 ⊢
      generalize (⟨(snd' 10 (bl D)).toArray⟩ : ByteArray) = X2 at c2 ⊢
      go_enter Tryz.func107, Tryz.ntmps107
      go_wp2_with fail
      refine (c1 _).mono ?_
      rintro e w1 ⟨rfl, rfl⟩
      go_wp2_with fail
      refine (c2 _).mono ?_
      rintro e w2 ⟨rfl, hb⟩
      clear c1 c2
      go_wp2_with fail
      go_ret3
      exact ⟨rfl, hb⟩

theorem pclone_any (s : ByteArray) (hs : s.size ≤ 100000) (w : World) :
    Calls Tryz.prog 95 #[.string s] w fun e w' => e = .returned (.string s) ∧ Below w.heap.size w w' := by
  have C1 := hide (Tryz.stringslite_Clone s w (by omega))
  go_enter Tryz.func95, Tryz.ntmps95
  go_wp2_with fail
  refine C1.out.mono ?_
  rintro e w1 ⟨rfl, h1⟩
  have H1 := hide h1
  clear h1 C1
  go_wp2_with fail
  go_ret
  exact ⟨rfl, H1.out⟩

set_option maxRecDepth 100000 in
set_option maxHeartbeats 8000000 in
theorem pcutList_any (s k : ByteArray) (hs : s.size ≤ 100000) (hk : k.size ≤ 100) (w : World) :
    Calls Tryz.prog 110 #[.string s, .string k] w fun e w' => (∃ (p : Option Addr) (c : Nat) (ls : List ByteArray) (S : ByteArray), e = .returned (.tuple #[.slice p (List.length ls) c, .string S]) ∧ StrArg w' (.slice p ls.length c) ls ∧ ls.map bl = (cutN 65 (bl k) (bl s)).1 ∧ bl S = (cutN 65 (bl k) (bl s)).2 ∧ ∀ b off, p = some ⟨b, off, none⟩ → w.heap.size ≤ b) ∧ Below w.heap.size w w' := by
  obtain ⟨i0, hi, hz0, hz1, hz2⟩ := info_parts infoStr
  obtain ⟨T, hT⟩ : ∃ T, T = cutN 65 (bl k) (bl s) := ⟨_, rfl⟩
  rw [← hT]
  have HT := hide hT
  clear hT
  go_enter Tryz.func110, Tryz.ntmps110
  go_wp2_with fail
  go_loopg [0, 6] 65 (fun g v0 v6 wr => ∃ (S : ByteArray) (n cp : Nat) (p : Option Addr) (ls : List ByteArray), n + g = 65 ∧ v0 = .string S ∧ v6 = .slice p n cp ∧ S.size ≤ 100000 ∧ Hid (n = ls.length ∧ wr.ownsRow w.heap.size 9 1 (.slice p n cp) n (strV ls) ∧ Below w.heap.size w wr ∧ T = (ls.map bl ++ (cutN g (bl k) (bl S)).1, (cutN g (bl k) (bl S)).2)))
  case atStart => exact ⟨s, 0, 0, none, [], rfl, rfl, rfl, hs, hide ⟨rfl, ⟨rfl, .inl ⟨rfl, rfl⟩⟩, Below.refl _ _, by rw [HT.out]; rfl⟩⟩
  case round =>
    obtain ⟨S, n, cp, p, ls, hn, rfl, rfl, hS, HR⟩ := hrel
    by_cases hlt : n ≤ 64
    · obtain ⟨g, rfl⟩ : ∃ g, gk = g + 1 := ⟨gk - 1, by omega⟩
      have c1 := fun w => pcutLine_any S k hS hk w
      cases hc : cutL (bl k) (bl S) with
      | none =>
        have HE : Hid (lineOf (bl k) (bl S) = [] ∧ restOf (bl k) (bl S) = bl S) := hide (by unfold lineOf restOf; rw [hc]; exact ⟨rfl, rfl⟩)
        rw [hc, HE.out.1, HE.out.2, mk_bl] at c1
        have HF : Hid (StrArg wr (.slice p ls.length cp) ls ∧ n = ls.length ∧ Below w.heap.size w wr ∧ ls.map bl = T.1 ∧ bl S = T.2 ∧ ∀ b off, p = some ⟨b, off, none⟩ → w.heap.size ≤ b) := hide (by
          obtain ⟨h1, h2, h3, h4⟩ := HR.out
          rw [cutN, hc] at h4
          refine ⟨own_arg (B := w.heap.size) (by rw [← h1]; exact h2), h1, h3, by rw [h4]; simp, by rw [h4], fun b off e => by subst e; exact (own_block h2 rfl).1⟩)
        clear hc HE HR
        go_wp2_with fail
        refine (c1 _).mono ?_
        rintro e w1 ⟨rfl, hb1⟩
        have HB := hide hb1
        clear hb1 c1
        go_wp2_with fail
        go_ret2
        refine ⟨⟨p, cp, ls, S, by rw [← HF.out.2.1]; rfl, HF.out.1.below HB.out, HF.out.2.2.2.1, HF.out.2.2.2.2.1, HF.out.2.2.2.2.2⟩, bel2 HF.out.2.2.1 HB.out⟩
      | some x =>
        have HE : Hid (lineOf (bl k) (bl S) = x.1 ∧ restOf (bl k) (bl S) = x.2) := hide (by unfold lineOf restOf; rw [hc]; exact ⟨rfl, rfl⟩)
        have hlen := cutL_len hc
        rw [bl_len, bl_len] at hlen
        rw [hc, HE.out.1, HE.out.2] at c1
        obtain ⟨X1, hX1⟩ : ∃ X1 : ByteArray, X1 = ⟨x.1.toArray⟩ := ⟨_, rfl⟩
        obtain ⟨X2, hX2⟩ : ∃ X2 : ByteArray, X2 = ⟨x.2.toArray⟩ := ⟨_, rfl⟩
        rw [← hX1, ← hX2] at c1
        have hb1 : bl X1 = x.1 := by rw [hX1]
        have hb2 : bl X2 = x.2 := by rw [hX2]
        have z1 : X1.size ≤ 100000 := by rw [← bl_len, hb1]; omega
        have z2 : X2.size ≤ 100000 := by rw [← bl_len, hb2]; omega
        have c2 := fun w => pclone_any X1 z1 w
        have HST : Hid (T = ((ls ++ [X1]).map bl ++ (cutN g (bl k) (bl X2)).1, (cutN g (bl k) (bl X2)).2)) := hide (by
          have h4 := HR.out.2.2.2
          rw [cutN, hc] at h4
          rw [h4, hb2, List.map_append]
          show _ = (ls.map bl ++ [bl X1] ++ _, _)
          rw [hb1, List.append_assoc]
          rfl)
        clear hc HE hlen hX1 hX2 hb1 hb2
        go_wp2_with fail
        refine (c1 _).mono ?_
        rintro e w1 ⟨rfl, j1⟩
        have J1 := hide j1
        clear j1 c1
        go_wp2_with fail
        refine (c2 _).mono ?_
        rintro e w2 ⟨rfl, j2⟩
        have J2 := hide (bel2 J1.out j2)
        have JB := hide (HR.out.2.2.1.trans (J2.out.mono HR.out.2.2.1.size))
        clear j2 c2 J1
        have HOW : Hid ((w2.alloc (.cells #[.string X1] 9)).ownsRow w.heap.size 9 1 (.slice p n cp) n (strV ls)) := hide ((HR.out.2.1.kept (row := none) (below_grown J2.out) (Classical.em _)).alloc _)
        have HSZ : Hid (w.heap.size ≤ (w2.alloc (.cells #[.string X1] 9)).heap.size) := hide (by have := JB.out.size; simp; omega)
        go_wp2_with (at_builtin; refine wpList_append_own _ rfl _ _ 30 rfl w.heap.size 9 i0 _ 1 16 Tryz.underlying30 hi hz0 hz1 hz2 rfl (by decide) (.slice p n cp) n (strV ls) rfl HOW.out ⟨w2.heap.size, 0, none⟩ 1 1 [.string X1] rfl rfl (one_new _ _ _) (by simp [Value.oneCell']) (by unfold maxLen; omega) (by omega) HSZ.out ?_)
        intro u' w3 hown3 hg3 _
        obtain ⟨p', c', rfl, -⟩ := own_shape hown3
        have HR3 : Hid (n + 1 = (ls ++ [X1]).length ∧ w3.ownsRow w.heap.size 9 1 (.slice p' (n + 1) c') (n + 1) (strV (ls ++ [X1])) ∧ Below w.heap.size w w3) := hide ⟨by rw [List.length_append, ← HR.out.1]; rfl, by rw [strV_app]; exact hown3, (JB.out.alloc JB.out.size _).grown hg3 (by have := JB.out.size; simp; omega) (fun kk hk => by
          have := HR.out.2.1
          rcases this.2 with ⟨e, _⟩ | ⟨g, cap, cur, e, hg, _⟩
          · rw [e] at hk; simp [Value.ownBlock] at hk
          · rw [e] at hk; simp only [Value.ownBlock, Option.some.injEq] at hk; omega)⟩
        clear hown3 hg3 HOW HSZ HR
        go_wp2_with fail
        go_roundg g
        case measure => omega
        case rel => exact ⟨X2, n + 1, c', p', ls ++ [X1], by omega, rfl, rfl, z2, hide ⟨HR3.out.1, HR3.out.2.1, HR3.out.2.2, HST.out⟩⟩
    · have hg0 : gk = 0 := by omega
      subst hg0
      have HF : Hid (StrArg wr (.slice p ls.length cp) ls ∧ n = ls.length ∧ Below w.heap.size w wr ∧ ls.map bl = T.1 ∧ bl S = T.2 ∧ ∀ b off, p = some ⟨b, off, none⟩ → w.heap.size ≤ b) := hide (by
        obtain ⟨h1, h2, h3, h4⟩ := HR.out
        refine ⟨own_arg (B := w.heap.size) (by rw [← h1]; exact h2), h1, h3, by rw [h4]; simp [cutN], by rw [h4]; rfl, fun b off e => by subst e; exact (own_block h2 rfl).1⟩)
      clear HR
      go_wp2_with fail
      go_ret2
      exact ⟨⟨p, cp, ls, S, by rw [← HF.out.2.1]; rfl, HF.out.1, HF.out.2.2.2.1, HF.out.2.2.2.2.1, HF.out.2.2.2.2.2⟩, HF.out.2.2.1⟩
end Go.Proofs.YtmogplecohkjcaaGreatDoor
