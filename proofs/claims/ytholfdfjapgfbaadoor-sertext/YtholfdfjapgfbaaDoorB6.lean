/-
  What tok.withRaw answers.
-/
import Derived.Test.YtholfdfjapgfbaaDoorB5
import Derived.Test.YtholfdfjapgfbaaDoorU4
namespace Go.Proofs.YtholfdfjapgfbaaDoor
open Go.RowKit
open Utf1

theorem five_newd (w : World) (a b c d e : Value) (t : TypeId) : ∀ (j : Nat) (u : Value), [a, b, c, d, e][j]? = some u → (w.alloc (.cells #[a, b, c, d, e] t)).drew.cell? ((⟨w.heap.size, 0, none⟩ : Addr).add j) = some u := fun j u h => five_new w a b c d e t j u h
theorem grown_drew {w w1 : World} {row : Option Nat} (h : w.drew.grownBy w1 row) : w.grownBy w1 row := ⟨h.os, h.tape, h.output, h.size, h.block⟩

set_option maxRecDepth 100000 in
set_option maxHeartbeats 8000000 in
theorem withRaw_any (s : ByteArray) (w : World) (base m cap g : Nat) (l : List (Tk × Value)) (t : Tk) (av : Value) (hm : m ≤ 4294967280) (hs : s.size ≤ 4294967280) (htn : t.name.length ≤ 4294967280) (hg : Glob w) (hgm : GlobM w) (hbase : base ≤ w.heap.size) (hl : l.length = m) (h : ToksAt w base (.slice (some ⟨g, 0, none⟩) (m + 1) cap) (l ++ [(t, av)])) :
    Calls Tryd.prog 17 #[.slice (some ⟨g, 0, none⟩) (m + 1) cap, .string s] w fun e w' => ∃ v', e = .returned (.tuple #[v', .string ⟨(withRaw t (bl s)).2.toArray⟩]) ∧ ∃ l', l'.map Prod.fst = (withRaw t (bl s)).1 ∧ ToksAt w' base v' (l ++ [(t, av)] ++ l') ∧ Below base w w' := by
  obtain ⟨ap, am, ac, rfl⟩ := own_slice (h.2 (t, av) (by simp))
  have hp : (l ++ [(t, .slice ap am ac)])[m]? = some (t, .slice ap am ac) := by
    rw [List.getElem?_append_right (by omega), hl]
    simp
  have c0 : w.cell? ⟨g, m * 5, none⟩ = some (.int .i64 (t.kind : Int)) := tok_at h m _ hp 0 (by decide)
  have c1 : w.cell? ⟨g, m * 5 + 1, none⟩ = some (.string ⟨t.name.toArray⟩) := tok_at h m _ hp 1 (by decide)
  have c2 : w.cell? ⟨g, m * 5 + 2, none⟩ = some (.slice ap am ac) := tok_at h m _ hp 2 (by decide)
  have c3 : w.cell? ⟨g, m * 5 + 3, none⟩ = some (.bool t.closed) := tok_at h m _ hp 3 (by decide)
  have c4 : w.cell? ⟨g, m * 5 + 4, none⟩ = some (.string ⟨t.text.toArray⟩) := tok_at h m _ hp 4 (by decide)
  obtain ⟨NM, hNM⟩ : ∃ NM : ByteArray, NM = ⟨t.name.toArray⟩ := ⟨_, rfl⟩
  obtain ⟨TX, hTX⟩ : ∃ TX : ByteArray, TX = ⟨t.text.toArray⟩ := ⟨_, rfl⟩
  rw [← hNM] at c1
  rw [← hTX] at c4
  have hbn : bl NM = t.name := by rw [hNM]
  have hNs : NM.size ≤ 4294967280 := by rw [← bl_len, hbn]; exact htn
  have hraw := fun w => raw_any NM w
  rw [hbn] at hraw
  have HTK := hide h
  have HBE : Hid (Below w.heap.size w (w.alloc (.cells #[.int .i64 (t.kind : Int), .string NM, .slice ap am ac, .bool t.closed, .string TX] 31))) := hide ((Below.refl _ _).alloc (Nat.le_refl _) _)
  have HNB := hide hbn
  clear h hp hNM hTX hbn htn
  by_cases hk : t.kind = 2
  case neg =>
    have hkz : ((t.kind : Int) != 2) = true := bne_iff_ne.2 (by omega)
    have e : withRaw t (bl s) = ([], bl s) := by
      unfold withRaw
      rw [if_neg hk]
    have HSAME : Hid ([] = (withRaw t (bl s)).1) := hide (by rw [e])
    rw [show (⟨(withRaw t (bl s)).2.toArray⟩ : ByteArray) = s by rw [e]]
    generalize (t.kind : Int) = kd at c0 hkz HBE
    clear e hk hg hgm
    go_enter Tryd.func17, Tryd.ntmps17
    go_wp2_with fail
    refine (hraw _).mono ?_
    rintro e w1 ⟨rfl, rfl⟩
    go_wp2_with fail
    go_ret2
    exact ⟨_, rfl, [], HSAME.out, by simpa using HTK.out.below (HBE.out), HBE.out.mono hbase⟩
  have hkz : ((t.kind : Int) != 2) = false := by rw [hk]; rfl
  have ew : withRaw t (bl s) = match rawOf t.name with
    | none => ([], bl s)
    | some b => if rawLen t.name (bl s) = 0 then ([], bl s) else ([⟨1, [], [], false, if b then res ((bl s).take (rawLen t.name (bl s))) else (bl s).take (rawLen t.name (bl s))⟩], (bl s).drop (rawLen t.name (bl s))) := by
    unfold withRaw
    rw [if_pos hk]
    cases rawOf t.name <;> rfl
  generalize (t.kind : Int) = kd at c0 hkz HBE
  cases hr : rawOf t.name with
  | none =>
    rw [hr] at ew hraw
    have HSAME : Hid ([] = (withRaw t (bl s)).1) := hide (by rw [ew])
    rw [show (⟨(withRaw t (bl s)).2.toArray⟩ : ByteArray) = s by rw [ew]]
    clear ew hk hg hgm hr
    go_enter Tryd.func17, Tryd.ntmps17
    go_wp2_with fail
    refine (hraw _).mono ?_
    rintro e w1 ⟨rfl, rfl⟩
    go_wp2_with fail
    go_ret2
    exact ⟨_, rfl, [], HSAME.out, by simpa using HTK.out.below (HBE.out), HBE.out.mono hbase⟩
  | some b =>
    rw [hr] at ew hraw
    have hrl := fun w hgm => rawLen_any s NM w hs hNs hgm
    rw [HNB.out] at hrl
    have HGM := hide (hgm.below HBE.out)
    have hle := rawLen_le t.name (bl s)
    rw [bl_len] at hle
    obtain ⟨n, hn⟩ : ∃ n, n = rawLen t.name (bl s) := ⟨_, rfl⟩
    rw [← hn] at hrl ew hle
    clear hn hk hr
    simp only at ew
    by_cases hn0 : n = 0
    · rw [if_pos hn0] at ew
      have HSAME : Hid ([] = (withRaw t (bl s)).1) := hide (by rw [ew])
      rw [show (⟨(withRaw t (bl s)).2.toArray⟩ : ByteArray) = s by rw [ew]]
      subst hn0
      clear ew hg hgm
      go_enter Tryd.func17, Tryd.ntmps17
      go_wp2_with fail
      refine (hraw _).mono ?_
      rintro e w1 ⟨rfl, rfl⟩
      go_wp2_with fail
      refine (hrl _ HGM.out).mono ?_
      rintro e w2 ⟨rfl, hb2⟩
      have HB2 := hide (bel2 HBE.out hb2)
      clear hb2 HBE
      go_wp2_with fail
      go_ret2
      exact ⟨_, rfl, [], HSAME.out, by simpa using HTK.out.below HB2.out, HB2.out.mono hbase⟩
    rw [if_neg hn0] at ew
    have hnz : ((n : Int) == 0) = false := beq_eq_false_iff_ne.2 (by omega)
    have HEX : Hid ((⟨(withRaw t (bl s)).2.toArray⟩ : ByteArray) = s.extract n s.size) := hide (by rw [ew, ext_drop])
    have hclo := fun w => clone_any (s.extract 0 n) w (by simp; omega)
    have hbx : bl (s.extract 0 n) = (bl s).take n := by rw [extract_take]
    have HGB : Hid (base ≤ g) := hide (by
      obtain ⟨g', cap', e, hb⟩ := toks_slice HTK.out (by simp)
      injection e with e1 e2 e3
      cases e1
      exact hb)
    obtain ⟨i0, hi, hz0, hz1, hz2⟩ := info_parts infoTok
    have hxs : (s.extract 0 n).size ≤ 4294967280 := by simp; omega
    have HG := hide hg
    clear hg hgm hn0
    cases b
    · have HT1 : Hid ([(⟨1, [], [], false, bl (s.extract 0 n)⟩ : Tk)] = (withRaw t (bl s)).1) := hide (by rw [ew, hbx]; rfl)
      clear ew hbx
      generalize hX : s.extract 0 n = X at hclo hxs HT1
      go_enter Tryd.func17, Tryd.ntmps17
      go_wp2_with fail
      refine (hraw _).mono ?_
      rintro e w1 ⟨rfl, rfl⟩
      go_wp2_with fail
      refine (hrl _ HGM.out).mono ?_
      rintro e w2 ⟨rfl, hb2⟩
      have HB2 := hide (bel2 HBE.out hb2)
      clear hb2 HBE
      go_wp2_with fail
      refine (hclo _).mono ?_
      rintro e w3 ⟨rfl, hb3⟩
      have HB3 := hide (bel2 HB2.out hb3)
      clear hb3 HB2
      go_wp2_with fail
      refine wp_region_any (by kernel_rfl) ?_
      try (change wpAny _ _ _ _ _ _ _ (World.drew _))
      refine wpAny_to (i := 0) (v := .slice (some ⟨g, 0, none⟩) (m + 1) cap) (a' := ?ap0) rfl (by kernel_rfl) (by kernel_rfl) (by kernel_rfl) (fun _ _ _ h => h) (Or.inl ⟨by rfl, ?yi⟩) ?ha ?_
      case yi => intro w; go_simp
      case ha => go_simp; exact rfl
      refine wpAny_to (i := 1) (v := .string X) (a' := ?ap1) rfl (by kernel_rfl) (by kernel_rfl) (by kernel_rfl) (fun _ _ _ h => h) (Or.inl ⟨by rfl, ?yi⟩) ?ha ?_
      case yi => intro w; go_simp
      case ha => go_simp; exact rfl
      refine wpAny_to (i := 2) (v := .agg #[.int .i64 1, .string ⟨#[]⟩, .slice none 0 0, .bool false, .string X]) (a' := ?ap2) rfl (by kernel_rfl) (by kernel_rfl) (by kernel_rfl) (fun _ _ _ h => h) (Or.inl ⟨by rfl, ?yi⟩) ?ha ?_
      case yi => intro w; go_simp
      case ha => go_simp; exact rfl
      refine wpAny_to (i := 5) (v := .string s) (a' := ?ap5) rfl (by kernel_rfl) (by kernel_rfl) (by kernel_rfl) (fun _ _ _ h => h) (Or.inl ⟨by rfl, ?yi⟩) ?ha ?_
      case yi => intro w; go_simp
      case ha => go_simp; exact rfl
      refine wpAny_to (i := 6) (v := .int .i64 (n : Int)) (a' := ?ap6) rfl (by kernel_rfl) (by kernel_rfl) (by kernel_rfl) (fun _ _ _ h => h) (Or.inl ⟨by rfl, ?yi⟩) ?ha ?_
      case yi => intro w; go_simp
      case ha => go_simp; exact rfl
      refine wpAny_to (i := 7) (v := .string (s.extract n s.size)) (a' := ?ap7) rfl (by kernel_rfl) (by kernel_rfl) (by kernel_rfl) (fun _ _ _ h => h) (Or.inl ⟨by rfl, ?yi⟩) ?ha ?_
      case yi => intro w; go_simp
      case ha => go_simp; exact rfl
      refine wpAny_ready (rs := [3]) (by kernel_rfl) (by simp) ?_
      refine AllReady.cons rfl (fun K hK => ?_) AllReady.nil
      go_simp
      go_wp2_with fail
      refine wpAny_ready (rs := [4]) (by kernel_rfl) (by simp) ?_
      refine AllReady.cons rfl (fun K hK => ?_) AllReady.nil
      rw [if_pos (by rfl)]
      refine wp_append_own _ (.tmp 47) (.tmp 50) 26 rfl base 31 i0 _ 5 72 Tryd.underlying26 hi hz0 hz1 hz2 rfl (by decide) (.slice (some ⟨g, 0, none⟩) (m + 1) cap) (l ++ [(t, Value.slice ap am ac)]).length (toksCells (l ++ [(t, Value.slice ap am ac)])) rfl ((HTK.out.below (HB3.out)).1.alloc _).drew ⟨w3.heap.size, 0, none⟩ 1 1 [.int .i64 1, .string ⟨#[]⟩, .slice none 0 0, .bool false, .string X] rfl rfl (five_newd w3 _ _ _ _ _ _) (five_one _ _ _ _ _ _ _) (by unfold maxLen; rw [List.length_append]; simp; omega) (by rw [List.length_append]; simp; omega) (by have := (HB3.out).size; simp; omega) ?_
      intro v' w5 hown5 hgr5 _
      obtain ⟨bp, bm, bc, rfl⟩ := own_slice hown5
      have hgr5 := grown_drew hgr5
      have HTM := hide (ToksAt.more (t := ⟨1, [], [], false, bl X⟩) (av := .slice none 0 0) (HTK.out.below (HB3.out)) (World.ownsRow_nil _ _ _ _) (by rw [show tokCells ⟨1, [], [], false, bl X⟩ (.slice none 0 0) = [.int .i64 1, .string ⟨#[]⟩, .slice none 0 0, .bool false, .string X] by unfold tokCells; rw [bl_eta]; rfl]; exact hown5) hgr5)
      have HBL : Hid (Below base w w5) := hide ((((HB3.out).alloc (HB3.out).size _).mono hbase).grown hgr5 (by have := (HB3.out).size; simp; omega) (fun j hj => by simp [Value.ownBlock] at hj; have := HGB.out; omega))
      clear hown5 hgr5
      refine hK _ _ ?_
      clear hK K
      refine wpAny_to (i := 8) (v := .slice bp bm bc) (a' := ?ap8) rfl (by kernel_rfl) (by kernel_rfl) (by kernel_rfl) (fun _ _ _ h => h) (Or.inl ⟨by rfl, ?yi⟩) ?ha ?_
      case yi => intro w; go_simp
      case ha => go_simp; exact rfl
      refine wpAny_to (i := 9) (v := .string (s.extract n s.size)) (a' := ?ap9) rfl (by kernel_rfl) (by kernel_rfl) (by kernel_rfl) (fun _ _ _ h => h) (Or.inl ⟨by rfl, ?yi⟩) ?ha ?_
      case yi => intro w; go_simp
      case ha => go_simp; exact rfl
      refine wpAny_done (by kernel_rfl) ?_ _
      go_wp2_with fail
      go_ret2
      rw [HEX.out]
      exact ⟨_, rfl, [(_, _)], HT1.out, HTM.out, HBL.out⟩
    · have hrv := fun w hg => resolve_any (s.extract 0 n) (by omega) w hg
      have hRb : bl ⟨(res (bl (s.extract 0 n))).toArray⟩ = res (bl (s.extract 0 n)) := rfl
      generalize (⟨(res (bl (s.extract 0 n))).toArray⟩ : ByteArray) = RV at hrv hRb
      have HT1 : Hid ([(⟨1, [], [], false, bl RV⟩ : Tk)] = (withRaw t (bl s)).1) := hide (by rw [ew, hRb, hbx]; rfl)
      clear ew hbx hRb
      generalize hX : s.extract 0 n = X at hclo hxs hrv
      go_enter Tryd.func17, Tryd.ntmps17
      go_wp2_with fail
      refine (hraw _).mono ?_
      rintro e w1 ⟨rfl, rfl⟩
      go_wp2_with fail
      refine (hrl _ HGM.out).mono ?_
      rintro e w2 ⟨rfl, hb2⟩
      have HB2 := hide (bel2 HBE.out hb2)
      clear hb2 HBE
      go_wp2_with fail
      refine (hclo _).mono ?_
      rintro e w3 ⟨rfl, hb3⟩
      have HB3 := hide (bel2 HB2.out hb3)
      clear hb3 HB2
      go_wp2_with fail
      refine (hrv _ (HG.out.below HB3.out)).mono ?_
      rintro e w4 ⟨rfl, hb4⟩
      have HB4 := hide (bel2 HB3.out hb4)
      clear hb4 HB3
      go_wp2_with fail
      refine wp_region_any (by kernel_rfl) ?_
      try (change wpAny _ _ _ _ _ _ _ (World.drew _))
      refine wpAny_to (i := 0) (v := .slice (some ⟨g, 0, none⟩) (m + 1) cap) (a' := ?aq0) rfl (by kernel_rfl) (by kernel_rfl) (by kernel_rfl) (fun _ _ _ h => h) (Or.inl ⟨by rfl, ?yi⟩) ?ha ?_
      case yi => intro w; go_simp
      case ha => go_simp; exact rfl
      refine wpAny_to (i := 1) (v := .string RV) (a' := ?aq1) rfl (by kernel_rfl) (by kernel_rfl) (by kernel_rfl) (fun _ _ _ h => h) (Or.inl ⟨by rfl, ?yi⟩) ?ha ?_
      case yi => intro w; go_simp
      case ha => go_simp; exact rfl
      refine wpAny_to (i := 2) (v := .agg #[.int .i64 1, .string ⟨#[]⟩, .slice none 0 0, .bool false, .string RV]) (a' := ?aq2) rfl (by kernel_rfl) (by kernel_rfl) (by kernel_rfl) (fun _ _ _ h => h) (Or.inl ⟨by rfl, ?yi⟩) ?ha ?_
      case yi => intro w; go_simp
      case ha => go_simp; exact rfl
      refine wpAny_to (i := 5) (v := .string s) (a' := ?aq5) rfl (by kernel_rfl) (by kernel_rfl) (by kernel_rfl) (fun _ _ _ h => h) (Or.inl ⟨by rfl, ?yi⟩) ?ha ?_
      case yi => intro w; go_simp
      case ha => go_simp; exact rfl
      refine wpAny_to (i := 6) (v := .int .i64 (n : Int)) (a' := ?aq6) rfl (by kernel_rfl) (by kernel_rfl) (by kernel_rfl) (fun _ _ _ h => h) (Or.inl ⟨by rfl, ?yi⟩) ?ha ?_
      case yi => intro w; go_simp
      case ha => go_simp; exact rfl
      refine wpAny_to (i := 7) (v := .string (s.extract n s.size)) (a' := ?aq7) rfl (by kernel_rfl) (by kernel_rfl) (by kernel_rfl) (fun _ _ _ h => h) (Or.inl ⟨by rfl, ?yi⟩) ?ha ?_
      case yi => intro w; go_simp
      case ha => go_simp; exact rfl
      refine wpAny_ready (rs := [3]) (by kernel_rfl) (by simp) ?_
      refine AllReady.cons rfl (fun K hK => ?_) AllReady.nil
      go_simp
      go_wp2_with fail
      refine wpAny_ready (rs := [4]) (by kernel_rfl) (by simp) ?_
      refine AllReady.cons rfl (fun K hK => ?_) AllReady.nil
      rw [if_pos (by rfl)]
      refine wp_append_own _ (.tmp 47) (.tmp 50) 26 rfl base 31 i0 _ 5 72 Tryd.underlying26 hi hz0 hz1 hz2 rfl (by decide) (.slice (some ⟨g, 0, none⟩) (m + 1) cap) (l ++ [(t, Value.slice ap am ac)]).length (toksCells (l ++ [(t, Value.slice ap am ac)])) rfl ((HTK.out.below (HB4.out)).1.alloc _).drew ⟨w4.heap.size, 0, none⟩ 1 1 [.int .i64 1, .string ⟨#[]⟩, .slice none 0 0, .bool false, .string RV] rfl rfl (five_newd w4 _ _ _ _ _ _) (five_one _ _ _ _ _ _ _) (by unfold maxLen; rw [List.length_append]; simp; omega) (by rw [List.length_append]; simp; omega) (by have := (HB4.out).size; simp; omega) ?_
      intro v' w5 hown5 hgr5 _
      obtain ⟨bp, bm, bc, rfl⟩ := own_slice hown5
      have hgr5 := grown_drew hgr5
      have HTM := hide (ToksAt.more (t := ⟨1, [], [], false, bl RV⟩) (av := .slice none 0 0) (HTK.out.below (HB4.out)) (World.ownsRow_nil _ _ _ _) (by rw [show tokCells ⟨1, [], [], false, bl RV⟩ (.slice none 0 0) = [.int .i64 1, .string ⟨#[]⟩, .slice none 0 0, .bool false, .string RV] by unfold tokCells; rw [bl_eta]; rfl]; exact hown5) hgr5)
      have HBL : Hid (Below base w w5) := hide ((((HB4.out).alloc (HB4.out).size _).mono hbase).grown hgr5 (by have := (HB4.out).size; simp; omega) (fun j hj => by simp [Value.ownBlock] at hj; have := HGB.out; omega))
      clear hown5 hgr5
      refine hK _ _ ?_
      clear hK K
      refine wpAny_to (i := 8) (v := .slice bp bm bc) (a' := ?aq8) rfl (by kernel_rfl) (by kernel_rfl) (by kernel_rfl) (fun _ _ _ h => h) (Or.inl ⟨by rfl, ?yi⟩) ?ha ?_
      case yi => intro w; go_simp
      case ha => go_simp; exact rfl
      refine wpAny_to (i := 9) (v := .string (s.extract n s.size)) (a' := ?aq9) rfl (by kernel_rfl) (by kernel_rfl) (by kernel_rfl) (fun _ _ _ h => h) (Or.inl ⟨by rfl, ?yi⟩) ?ha ?_
      case yi => intro w; go_simp
      case ha => go_simp; exact rfl
      refine wpAny_done (by kernel_rfl) ?_ _
      go_wp2_with fail
      go_ret2
      rw [HEX.out]
      exact ⟨_, rfl, [(_, _)], HT1.out, HTM.out, HBL.out⟩
end Go.Proofs.YtholfdfjapgfbaaDoor
