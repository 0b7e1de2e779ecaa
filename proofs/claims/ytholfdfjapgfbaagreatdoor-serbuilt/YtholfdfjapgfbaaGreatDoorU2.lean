/-
  readTag at its label 'quoted'.
-/
import Derived.Test.YtholfdfjapgfbaaGreatDoorU0
namespace Go.Proofs.YtholfdfjapgfbaaGreatDoor
open Go.RowKit
open Utf1

set_option maxHeartbeats 4000000 in
theorem tag_quoted (w0 : World) (start : Bool) (nm : ByteArray) (tg : Option (Tk × List UInt8)) (N n : Nat) (a : Act) (wr : World) (hN : N ≤ 4294967280) (hJ : JQuo w0 start nm tg N n a wr)
    (hkeep : ∀ n a w, JKeep w0 start nm tg N n a w → ∃ rest, findLabel tagCode 3 = some (.seq .skip rest) ∧ rest.wp Tryz.prog (jumps (fun l' a' w' => ∃ n', n' < n ∧ tagJ w0 start nm tg N n' l' a' w') (bodyPost Tryz.prog Tryz.f24 (TagPost tg w0))) a w) :
    ∃ rest, findLabel tagCode 4 = some rest ∧ rest.wp Tryz.prog (jumps (fun l' a' w' => ∃ n', n' < n ∧ tagJ w0 start nm tg N n' l' a' w') (bodyPost Tryz.prog Tryz.f24 (TagPost tg w0))) a wr := by
  unfold JQuo at hJ
  obtain ⟨s, hJ⟩ := hJ; obtain ⟨name, hJ⟩ := hJ; obtain ⟨q, hJ⟩ := hJ; obtain ⟨v, hJ⟩ := hJ; obtain ⟨acc, hJ⟩ := hJ; obtain ⟨k, hJ⟩ := hJ; obtain ⟨av, hJ⟩ := hJ; obtain ⟨u1, hJ⟩ := hJ; obtain ⟨u5, hJ⟩ := hJ; obtain ⟨u7, hJ⟩ := hJ; obtain ⟨u8, hJ⟩ := hJ; obtain ⟨u11, hJ⟩ := hJ; obtain ⟨u12, hJ⟩ := hJ; obtain ⟨u13, hJ⟩ := hJ; obtain ⟨u14, hJ⟩ := hJ; obtain ⟨u15, hJ⟩ := hJ; obtain ⟨u16, hJ⟩ := hJ; obtain ⟨u17, hJ⟩ := hJ; obtain ⟨u18, hJ⟩ := hJ; obtain ⟨u19, hJ⟩ := hJ; obtain ⟨u20, hJ⟩ := hJ; obtain ⟨u21, hJ⟩ := hJ; obtain ⟨u22, hJ⟩ := hJ; obtain ⟨u23, hJ⟩ := hJ; obtain ⟨u24, hJ⟩ := hJ; obtain ⟨u25, hJ⟩ := hJ; obtain ⟨u26, hJ⟩ := hJ; obtain ⟨u27, hJ⟩ := hJ; obtain ⟨u28, hJ⟩ := hJ; obtain ⟨u29, hJ⟩ := hJ; obtain ⟨u30, hJ⟩ := hJ; obtain ⟨u31, hJ⟩ := hJ; obtain ⟨u32, hJ⟩ := hJ; obtain ⟨u33, hJ⟩ := hJ; obtain ⟨u34, hJ⟩ := hJ; obtain ⟨u35, hJ⟩ := hJ; obtain ⟨u36, hJ⟩ := hJ; obtain ⟨u37, hJ⟩ := hJ; obtain ⟨u38, hJ⟩ := hJ; obtain ⟨u39, hJ⟩ := hJ; obtain ⟨u40, hJ⟩ := hJ; obtain ⟨u41, hJ⟩ := hJ; obtain ⟨u42, hJ⟩ := hJ; obtain ⟨u43, hJ⟩ := hJ; obtain ⟨u44, hJ⟩ := hJ; obtain ⟨u45, hJ⟩ := hJ; obtain ⟨u46, hJ⟩ := hJ; obtain ⟨u47, hJ⟩ := hJ; obtain ⟨u48, hJ⟩ := hJ; obtain ⟨u49, hJ⟩ := hJ; obtain ⟨u50, hJ⟩ := hJ; obtain ⟨u51, hJ⟩ := hJ; obtain ⟨u52, hJ⟩ := hJ; obtain ⟨u53, hJ⟩ := hJ; obtain ⟨u54, hJ⟩ := hJ; obtain ⟨u55, hJ⟩ := hJ; obtain ⟨u56, hJ⟩ := hJ; obtain ⟨u57, hJ⟩ := hJ; obtain ⟨u58, hJ⟩ := hJ; obtain ⟨u59, hJ⟩ := hJ; obtain ⟨u60, hJ⟩ := hJ; obtain ⟨u61, hJ⟩ := hJ; obtain ⟨u62, hJ⟩ := hJ; obtain ⟨u63, hJ⟩ := hJ; obtain ⟨u64, hJ⟩ := hJ; obtain ⟨u65, hJ⟩ := hJ; obtain ⟨u66, hJ⟩ := hJ; obtain ⟨u67, hJ⟩ := hJ; obtain ⟨u68, hJ⟩ := hJ; obtain ⟨u69, hJ⟩ := hJ; obtain ⟨u70, hJ⟩ := hJ; obtain ⟨u71, hJ⟩ := hJ; obtain ⟨u72, hJ⟩ := hJ; obtain ⟨u73, hJ⟩ := hJ; obtain ⟨u74, hJ⟩ := hJ; obtain ⟨u75, hJ⟩ := hJ; obtain ⟨u76, hJ⟩ := hJ; obtain ⟨u77, hJ⟩ := hJ; obtain ⟨u78, hJ⟩ := hJ; obtain ⟨u79, hJ⟩ := hJ; obtain ⟨u80, hJ⟩ := hJ; obtain ⟨u81, hJ⟩ := hJ; obtain ⟨u82, hJ⟩ := hJ; obtain ⟨u83, hJ⟩ := hJ; obtain ⟨u84, hJ⟩ := hJ; obtain ⟨u85, hJ⟩ := hJ; obtain ⟨u86, hJ⟩ := hJ; obtain ⟨u87, hJ⟩ := hJ; obtain ⟨u88, hJ⟩ := hJ; obtain ⟨u89, hJ⟩ := hJ; obtain ⟨u90, hJ⟩ := hJ; obtain ⟨u91, hJ⟩ := hJ; obtain ⟨u92, hJ⟩ := hJ; obtain ⟨u93, hJ⟩ := hJ; obtain ⟨u94, hJ⟩ := hJ; obtain ⟨u95, hJ⟩ := hJ; obtain ⟨u96, hJ⟩ := hJ; obtain ⟨u97, hJ⟩ := hJ; obtain ⟨u98, hJ⟩ := hJ; obtain ⟨u99, hJ⟩ := hJ; obtain ⟨u100, hJ⟩ := hJ; obtain ⟨u101, hJ⟩ := hJ; obtain ⟨u102, hJ⟩ := hJ; obtain ⟨u103, hJ⟩ := hJ; obtain ⟨u104, hJ⟩ := hJ; obtain ⟨u105, hJ⟩ := hJ; obtain ⟨u106, hJ⟩ := hJ; obtain ⟨u107, hJ⟩ := hJ; obtain ⟨u108, hJ⟩ := hJ; obtain ⟨u109, hJ⟩ := hJ; obtain ⟨u110, hJ⟩ := hJ; obtain ⟨u111, hJ⟩ := hJ; obtain ⟨u112, hJ⟩ := hJ; obtain ⟨u113, hJ⟩ := hJ; obtain ⟨u114, hJ⟩ := hJ; obtain ⟨u115, hJ⟩ := hJ; obtain ⟨u116, hJ⟩ := hJ; obtain ⟨u117, hJ⟩ := hJ; obtain ⟨u118, hJ⟩ := hJ; obtain ⟨u119, hJ⟩ := hJ; obtain ⟨u120, hJ⟩ := hJ; obtain ⟨u121, hJ⟩ := hJ; obtain ⟨u122, hJ⟩ := hJ; obtain ⟨u123, hJ⟩ := hJ; obtain ⟨u124, hJ⟩ := hJ; obtain ⟨u125, hJ⟩ := hJ; obtain ⟨hrel, ha⟩ := hJ; subst ha
  obtain ⟨hn, hsk, hname, hst, HS, HT⟩ := hrel
  have hs1 : 1 ≤ s.size := by
    rw [← bl_len, HS.out]
    simp
  have hq := ext_head HS.out
  have hr := ext_one HS.out
  have hqs : (s.extract 0 1).size = 1 := by rw [← bl_len, hq]; rfl
  have hrs := size_ext_one s
  obtain ⟨V, C, HV, HC, hVC, HP⟩ := pass_noneE (s.extract 1 s.size) (s.extract 0 1) (fun x => x != q) (by intro x; rw [hq]; simp only [List.contains_cons, List.contains_nil, Bool.or_false]; rfl) (by omega)
  rw [hr] at HV HC
  have HST := hide hst
  have HK := hide hkeep
  clear hq hr hkeep hst
  refine ⟨_, rfl, ?_⟩
  go_wp2
  refine wp_region_any (by kernel_rfl) ?_
  try (change wpAny _ _ _ _ _ _ _ (World.drew _))
  refine wpAny_to (i := 0) (v := .string s) (a' := ?ax0) rfl (by kernel_rfl) (by kernel_rfl) (by kernel_rfl) (fun _ _ _ h => h) (Or.inl ⟨by rfl, ?yi⟩) ?ha ?_
  case yi => intro w; go_simp
  case ha => go_simp; exact rfl
  refine wpAny_to (i := 1) (v := .string (s.extract 1 s.size)) (a' := ?ax1) rfl (by kernel_rfl) (by kernel_rfl) (by kernel_rfl) (fun _ _ _ h => h) (Or.inl ⟨by rfl, ?yi⟩) ?ha ?_
  case yi => intro w; go_simp; intro h; exfalso; omega
  case ha => go_simp; exact rfl
  refine wpAny_to (i := 2) (v := .string (s.extract 0 1)) (a' := ?ax2) rfl (by kernel_rfl) (by kernel_rfl) (by kernel_rfl) (fun _ _ _ h => h) (Or.inl ⟨by rfl, ?yi⟩) ?ha ?_
  case yi => intro w; go_simp
  case ha => go_simp; exact rfl
  refine wpAny_ready (rs := [3]) (by kernel_rfl) (by simp) ?_
  refine AllReady.cons rfl (fun K hK => ?_) AllReady.nil
  go_simp
  go_wp2_with fail
  refine (noneOf_c (s.extract 0 1) _).mono ?_
  rintro e w1 ⟨rfl, hc1, hz1, hb1⟩
  go_wp2_with fail
  refine wpAny_ready (rs := [4]) (by kernel_rfl) (by simp) ?_
  refine AllReady.cons rfl (fun K hK => ?_) AllReady.nil
  go_simp
  go_wp2_with fail
  refine (HP.out _ _ hc1).mono ?_
  rintro e w2 ⟨rfl, hb2⟩
  go_wp2_with fail
  refine wpAny_to (i := 5) (v := .tuple #[.string V, .string C]) (a' := ?ax5) rfl (by kernel_rfl) (by kernel_rfl) (by kernel_rfl) (fun _ _ _ h => h) (Or.inl ⟨by rfl, ?yi⟩) ?ha ?_
  case yi => intro w; go_simp
  case ha => go_simp; exact rfl
  refine wpAny_to (i := 6) (v := .string V) (a' := ?ax6) rfl (by kernel_rfl) (by kernel_rfl) (by kernel_rfl) (fun _ _ _ h => h) (Or.inl ⟨by rfl, ?yi⟩) ?ha ?_
  case yi => intro w; go_simp
  case ha => go_simp; exact rfl
  refine wpAny_to (i := 7) (v := .string C) (a' := ?ax7) rfl (by kernel_rfl) (by kernel_rfl) (by kernel_rfl) (fun _ _ _ h => h) (Or.inl ⟨by rfl, ?yi⟩) ?ha ?_
  case yi => intro w; go_simp
  case ha => go_simp; exact rfl
  refine wpAny_to (i := 8) (v := .string V) (a' := ?ax8) rfl (by kernel_rfl) (by kernel_rfl) (by kernel_rfl) (fun _ _ _ h => h) (Or.inl ⟨by rfl, ?yi⟩) ?ha ?_
  case yi => intro w; go_simp
  case ha => go_simp; exact rfl
  refine wpAny_to (i := 9) (v := .string C) (a' := ?ax9) rfl (by kernel_rfl) (by kernel_rfl) (by kernel_rfl) (fun _ _ _ h => h) (Or.inl ⟨by rfl, ?yi⟩) ?ha ?_
  case yi => intro w; go_simp
  case ha => go_simp; exact rfl
  refine wpAny_done (by kernel_rfl) ?_ _
  have hst2 := hide (HST.out.below (w1 := w2) (bel2 (bel_drew hb1) hb2))
  clear hb1 hb2 hc1 hz1 HP
  have HD := HC.out
  rcases hD : v.dropWhile (fun x => x != q) with _ | ⟨z, r⟩
  · rw [hD] at HD
    have hE := empty_of HD
    have HT2 : Hid (tg = none) := hide (by rw [HT.out, hD]; rfl)
    clear hD HD HT HC HV HS HK
    obtain ⟨hR, _, _, _, _, hb⟩ := hst2.out
    have HR := hide (And.intro hR hb)
    clear hR hb hst2 HST
    go_wp2_with fail
    go_step3
    refine (⟨0, by omega, ?_⟩ : ∃ n', n' < n ∧ tagJ w0 start nm tg N n' 1 _ _)
    show JNon _ _ _ _ _
    unfold JNon
    (repeat apply Exists.intro)
    refine ⟨⟨rfl, HR.out.1, HR.out.2, HT2⟩, rfl⟩
  · rw [hD] at HD
    have hE := nonempty_of HD
    have hr := ext_one HD
    have hC1 : 1 ≤ C.size := by rw [← bl_len, HD]; simp
    have hrs2 := size_ext_one C
    have HT2 : Hid (tg = (attrsOf (addAt acc (lower (bl name)) (res (bl V))) (bl (C.extract 1 C.size))).map (mkTk start nm)) := hide (by rw [HT.out, hD, HV.out, hr])
    clear hD HD HT HC HV HS hr
    go_wp2_with fail
    go_step3
    go_step
    go_step
    refine to_label (n := n) HK.out rfl (4 * (C.extract 1 C.size).size + 4) (by omega) ?_
    unfold JKeep
    (repeat apply Exists.intro)
    refine ⟨⟨rfl, by omega, hname, by omega, hst2.out, HT2⟩, rfl⟩
end Go.Proofs.YtholfdfjapgfbaaGreatDoor
