/-
  The document's Tokens: it answers the tokens of the plain mathematics; and the law TokReads.
-/
import Derived.Test.YtjmgcdeinjamiaaDoorY6
import Derived.Test.YtjmgcdeinjamiaaDoorLRaw
import Derived.Test.YtjmgcdeinjamiaaDoorSm2
namespace Go.Proofs.YtjmgcdeinjamiaaDoor
open Go.RowKit
open Utf1

theorem index_find (t : List UInt8) (ht : t ≠ []) : ∀ l : List UInt8, Lib.index l t = if findF t l < l.length then (findF t l : Int) else -1
  | [] => by
    cases t with
    | nil => exact absurd rfl ht
    | cons => rfl
  | c :: r => by
    unfold Lib.index findF
    by_cases h : t.isPrefixOf (c :: r) = true
    · rw [if_pos h, if_pos h, if_pos (by simp)]
      rfl
    · rw [if_neg h, if_neg h, index_find t ht r]
      by_cases h2 : findF t r < r.length
      · rw [if_pos h2, if_neg (by simp), if_pos (by simp only [List.length_cons]; omega)]
        simp
      · rw [if_neg h2, if_pos (by rfl), if_neg (by simp only [List.length_cons]; omega)]
theorem cut_find (t : List UInt8) (ht : t ≠ []) (l : List UInt8) : (Lib.cut l t).1 = l.take (findF t l) ∧ (Lib.cut l t).2.1 = l.drop (findF t l + t.length) := by
  have hle := findF_le t l
  unfold Lib.cut
  rw [index_find t ht l]
  by_cases h : findF t l < l.length
  · rw [if_pos h, if_pos (by omega)]
    simp
  · rw [if_neg h, if_neg (by decide)]
    have : findF t l = l.length := by omega
    rw [this]
    simp
theorem beg_three {l : List UInt8} (h : beg l = 3) : 2 ≤ l.length := by
  match l, h with
  | [], h => cases h
  | [c], h =>
    by_cases hc : c = 60
    · subst hc
      cases h
    · rw [beg_ne _ hc] at h
      cases h
  | _ :: _ :: _, _ => simp
theorem tok_cells (k : Nat) (NM : ByteArray) (a : List (List UInt8 × List UInt8)) (cl : Bool) (av : Value) : tokCells ⟨k, bl NM, a, cl, []⟩ av = [.int .i64 (k : Int), .string NM, av, .bool cl, .string ⟨#[]⟩] := by
  unfold tokCells
  rw [bl_eta]
theorem cell_kept {w w' : World} {a : Addr} {v : Value} (h : w.cell? a = some v) (hb : Below w.heap.size w w') : w'.cell? a = some v := by
  have hl := cell_lt h
  unfold World.cell? at h ⊢
  rw [hb.block _ hl]
  exact h
theorem not_empty {s : ByteArray} (h : bl s ≠ []) : s.toList.isEmpty = false := by
  cases hb : bl s with
  | nil => exact absurd hb h
  | cons c t => exact nonempty_of hb
theorem res_ne (l : List UInt8) (h : l ≠ []) : res l ≠ [] := by
  cases l with
  | nil => exact absurd rfl h
  | cons c t =>
    by_cases hc : c = 38
    · subst hc
      cases hr : refAt t with
      | none => rw [res_none t hr]; simp
      | some p =>
        obtain ⟨r, k⟩ := p
        have := (er_len r).1
        rw [res_some t r k hr]
        intro e
        have := congrArg List.length e
        rw [List.length_append, List.length_nil] at this
        omega
    · rw [res_plain c t hc]; simp

set_option maxRecDepth 100000 in
set_option maxHeartbeats 32000000 in
theorem rtokens_any (s : ByteArray) (w : World) (hs : s.size ≤ 5000) :
    Calls Tryd.prog 12 #[.string s] w fun e w' => ∃ v l, e = .returned v ∧ l.map Prod.fst = toks (bl s) ∧ ToksAt w' w.heap.size v l ∧ Below w.heap.size w w' := by
  obtain ⟨i0, hi, hz0, hz1, hz2⟩ := info_parts infoTok
  go_enter Tryd.func12, Tryd.ntmps12
  go_wp2_with fail
  go_loopg [3, 4] s.size (fun g v3 v4 wr => ∃ (q : Nat) (l : List (Tk × Value)), v4 = .int .i64 (q : Int) ∧ q + g = s.size ∧ l.length ≤ 2 * q ∧ ToksAt wr w.heap.size v3 l ∧ Below w.heap.size w wr ∧ Hid (l.map Prod.fst ++ toks ((bl s).drop q) = toks (bl s)))
  case atStart => exact ⟨0, [], rfl, by omega, by simp, ToksAt.nil _ _, Below.refl _ _, hide (by simp)⟩
  case round =>
    obtain ⟨q, l, rfl, hqg, hlq, htk, hbw, HA⟩ := hrel
    obtain ⟨ap, am, ac, rfl⟩ := own_slice htk.1
    have HTK := hide htk
    have HBW := hide hbw
    have HSZ : Hid (w.heap.size ≤ wr.heap.size) := hide hbw.size
    clear htk hbw
    by_cases hlt : q < s.size
    case neg =>
      have HF : Hid (l.map Prod.fst = toks (bl s)) := hide (by rw [← HA.out, drop_end hlt, toks_nil, List.append_nil])
      clear HA
      go_wp2_with fail
      go_ret
      exact ⟨_, l, rfl, HF.out, HTK.out, HBW.out⟩
    have hne : (bl s).drop q ≠ [] := by
      obtain ⟨c, hc, -⟩ := dropc hlt
      rw [hc]
      simp
    have HKD := hide (fun w => kind_any s q hlt (by omega) w)
    have hlen : ((bl s).drop q).length = s.size - q := by rw [List.length_drop, bl_len]
    go_wp2_with fail
    refine (HKD.out _).mono ?_
    rintro e w1 ⟨k, rfl, rfl, hk⟩
    clear HKD
    rcases hk with ⟨rfl, hb⟩ | ⟨rfl, hb⟩ | ⟨rfl, hb, r3, hr3⟩ | ⟨rfl, hb⟩ | ⟨rfl, hb, h47⟩ | ⟨rfl, hb, h47⟩
    · -- text
      have HKS := hide (fun (e : Nat) (he : e < s.size) (w : World) => kind_any s e he (by omega) w)
      have hst := toks_text _ hne hb
      have hsp : 1 ≤ stop ((bl s).drop q) := by
        obtain ⟨c, hc, -⟩ := dropc hlt
        rw [hc] at hb ⊢
        exact stop_pos _ _ hb
      have hsl := stop_le ((bl s).drop q)
      rw [hlen] at hsl
      obtain ⟨E, hE⟩ : ∃ E, E = q + stop ((bl s).drop q) := ⟨_, rfl⟩
      have hx : bl (s.extract q E) = ((bl s).drop q).take (stop ((bl s).drop q)) := by
        rw [ext_mid, hE, Nat.add_sub_cancel_left]
      have hxs : (s.extract q E).size ≤ 5000 := by
        rw [← bl_len, hx, List.length_take]
        omega
      have hrs := fun w => Doc.refResolve_any (s.extract q E) (by omega) w
      obtain ⟨V, hV⟩ : ∃ V : ByteArray, V = ⟨(res (bl (s.extract q E))).toArray⟩ := ⟨_, rfl⟩
      rw [← hV] at hrs
      have HN : Hid ((l.map Prod.fst ++ [⟨1, [], [], false, bl V⟩]) ++ toks ((bl s).drop E) = toks (bl s)) := hide (by
        rw [← HA.out, hst, hV, hx, hE, ← drop_drop', List.append_assoc]
        simp only [List.cons_append, List.nil_append])
      have HE : Hid (E = q + stop ((bl s).drop q)) := hide hE
      have hEb : q < E ∧ E ≤ s.size := by omega
      have HRS := hide hrs
      obtain ⟨hEa, hEc⟩ := hEb
      clear hst hsp hsl hE hx hxs hrs hV HA hne hlen hb
      go_wp2_with fail
      go_loopg [6] (s.size - q) (fun g v wr => ∃ e : Nat, e + g = s.size ∧ v = .int .i64 (e : Int) ∧ wr = w1 ∧ Hid (E = e + stop ((bl s).drop e)))
      case atStart => exact ⟨q, by omega, rfl, rfl, HE⟩
      case round =>
        obtain ⟨e, heg, rfl, rfl, HS⟩ := hrel
        by_cases helt : e < s.size
        · have hd : decide ((e : Int) < (s.size : Int)) = true := decide_eq_true (by omega)
          have HK2 := hide (HKS.out e helt)
          obtain ⟨c, hc, -⟩ := dropc helt
          go_wp2_with fail
          refine (HK2.out _).mono ?_
          rintro e' w2 ⟨k, rfl, rfl, hk⟩
          clear HK2
          by_cases hk0 : k = 0
          · subst hk0
            have hb : beg ((bl s).drop e) = 0 := by
              rcases hk with ⟨_, h⟩ | ⟨h, _⟩ | ⟨h, _⟩ | ⟨h, _⟩ | ⟨h, _⟩ | ⟨h, _⟩ <;> first | exact h | omega
            have HS2 : Hid (E = (e + 1) + stop ((bl s).drop (e + 1))) := hide (by
              rw [HS.out, hc] at *
              rw [hc] at hb
              conv => lhs; rw [stop]
              rw [if_pos hb]
              omega)
            clear hk hb hc HS
            go_wp2_with fail
            go_roundg (gk - 1)
            case measure => omega
            case rel => exact ⟨e + 1, by omega, by first | rfl | (rw [wrap64_in _ ⟨by omega, by omega⟩]; rfl) | simp, rfl, HS2⟩
          · have hb : beg ((bl s).drop e) ≠ 0 := by
              rcases hk with ⟨h, _⟩ | ⟨_, h⟩ | ⟨_, h, _⟩ | ⟨_, h⟩ | ⟨_, h, _⟩ | ⟨_, h, _⟩ <;> omega
            have hEe : E = e := by
              rw [HS.out]
              rw [hc] at hb ⊢
              rw [stop, if_neg hb]
              rfl
            subst hEe
            have hkz : ((k : Int) == 0) = false := beq_eq_false_iff_ne.2 (by omega)
            clear hk hb hc HS hk0
            go_wp2_with fail
            refine (HRS.out _).mono ?_
            rintro e' w8 ⟨rfl, hb8⟩
            have HT8 := hide (HTK.out.below hb8)
            have HB8 := hide (bel2 HBW.out hb8)
            have HS8 : Hid (w.heap.size ≤ w8.heap.size) := hide HB8.out.size
            clear hb8
            go_wp2_with (at_builtin; refine wpList_append_own _ rfl _ _ 24 rfl w.heap.size 32 i0 _ 5 72 Tryd.underlying24 hi hz0 hz1 hz2 rfl (by decide) (.slice ap am ac) l.length (toksCells l) rfl (HT8.out.1.alloc _) ⟨w8.heap.size, 0, none⟩ 1 1 [.int .i64 1, .string ⟨#[]⟩, .slice none 0 0, .bool false, .string V] rfl rfl (five_new w8 _ _ _ _ _ _) (five_one _ _ _ _ _ _ _) (by unfold maxLen; omega) (by omega) (by have := HS8.out; simp; omega) ?_)
            intro v' w90 hown9 hgr9 _
            obtain ⟨bp0, bm0, bc0, rfl⟩ := own_slice hown9
            have HT9 := hide (ToksAt.plain 1 V HT8.out hown9 hgr9)
            have HB9 := hide (bel_more HT8.out HB8.out HS8.out hgr9)
            clear hown9 hgr9
            go_wp2_with fail
            go_roundg (s.size - E)
            case measure => omega
            case rel => exact ⟨E, _, rfl, by omega, by rw [List.length_append]; simp; omega, HT9.out, HB9.out, by rw [List.map_append]; exact HN⟩
        · have hd : decide ((e : Int) < (s.size : Int)) = false := decide_eq_false (by omega)
          have hEe : E = e := by
            rw [HS.out, drop_end helt]
            rfl
          subst hEe
          clear HS
          go_wp2_with fail
          refine (HRS.out _).mono ?_
          rintro e' w8 ⟨rfl, hb8⟩
          have HT8 := hide (HTK.out.below hb8)
          have HB8 := hide (bel2 HBW.out hb8)
          have HS8 : Hid (w.heap.size ≤ w8.heap.size) := hide HB8.out.size
          clear hb8
          go_wp2_with (at_builtin; refine wpList_append_own _ rfl _ _ 24 rfl w.heap.size 32 i0 _ 5 72 Tryd.underlying24 hi hz0 hz1 hz2 rfl (by decide) (.slice ap am ac) l.length (toksCells l) rfl (HT8.out.1.alloc _) ⟨w8.heap.size, 0, none⟩ 1 1 [.int .i64 1, .string ⟨#[]⟩, .slice none 0 0, .bool false, .string V] rfl rfl (five_new w8 _ _ _ _ _ _) (five_one _ _ _ _ _ _ _) (by unfold maxLen; omega) (by omega) (by have := HS8.out; simp; omega) ?_)
          intro v' w90 hown9 hgr9 _
          obtain ⟨bp0, bm0, bc0, rfl⟩ := own_slice hown9
          have HT9 := hide (ToksAt.plain 1 V HT8.out hown9 hgr9)
          have HB9 := hide (bel_more HT8.out HB8.out HS8.out hgr9)
          clear hown9 hgr9
          go_wp2_with fail
          go_roundg (s.size - E)
          case measure => omega
          case rel => exact ⟨E, _, rfl, by omega, by rw [List.length_append]; simp; omega, HT9.out, HB9.out, by rw [List.map_append]; exact HN⟩
    · -- a note
      have h4 : q + 4 ≤ s.size := by
        have := beg_four hb
        rw [hlen] at this
        omega
      have hf := fun w => find_any s (q + 4) ⟨#[45, 45, 62]⟩ (by omega) (by omega) (by decide) w
      rw [show bl ⟨#[45, 45, 62]⟩ = [45, 45, 62] from rfl] at hf
      have hfl := findF_le [45, 45, 62] ((bl s).drop (q + 4))
      rw [List.length_drop, bl_len] at hfl
      have hcut := cut_find [45, 45, 62] (by decide) (((bl s).drop q).drop 4)
      rw [List.drop_drop] at hcut
      have hst := toks_note _ hb
      rw [List.drop_drop, hcut.1, hcut.2] at hst
      obtain ⟨F, hF⟩ : ∃ F, F = findF [45, 45, 62] ((bl s).drop (q + 4)) := ⟨_, rfl⟩
      rw [← hF] at hf hfl hst
      obtain ⟨X, hX⟩ : ∃ X : ByteArray, X = s.extract (q + 4) (q + 4 + F) := ⟨_, rfl⟩
      have hbx : bl X = ((bl s).drop (q + 4)).take F := by
        rw [hX, ext_mid, Nat.add_sub_cancel_left]
      obtain ⟨E, hE⟩ : ∃ E, E = min (q + 4 + F + 3) s.size := ⟨_, rfl⟩
      have hEd : (bl s).drop E = ((bl s).drop (q + 4)).drop (F + 3) := by
        rw [List.drop_drop, hE, show q + 4 + (F + 3) = q + 4 + F + 3 by omega]
        by_cases h : q + 4 + F + 3 ≤ s.size
        · rw [Nat.min_eq_left h]
        · rw [Nat.min_eq_right (by omega), List.drop_eq_nil_of_le (by rw [bl_len]; exact Nat.le_refl _), List.drop_eq_nil_of_le (by rw [bl_len]; omega)]
      have HN : Hid ((l.map Prod.fst ++ [⟨4, [], [], false, bl X⟩]) ++ toks ((bl s).drop E) = toks (bl s)) := hide (by
        rw [← HA.out, hst, hbx, hEd, List.append_assoc]
        simp only [List.cons_append, List.nil_append, List.length_cons, List.length_nil])
      have hEa : q < E ∧ E ≤ s.size := by omega
      have hmin : min ((q : Int) + 4 + (F : Int) + 3) (s.size : Int) = (E : Int) := by
        rw [hE]
        omega
      have hf : ∀ w, Calls Tryd.prog 27 #[.string s, .int .i64 ((q : Int) + 4), .string ⟨#[45, 45, 62]⟩] w fun e w' => e = .returned (.int .i64 ((q : Int) + 4 + (F : Int))) ∧ w' = w := hf
      have HF := hide hf
      obtain ⟨hEa, hEc⟩ := hEa
      have HX := hide hX
      rw [hX] at HN
      clear hf hcut hst hF hbx hE hEd HA hne hlen hb hX HX
      go_wp2_with fail
      refine (HF.out _).mono ?_
      rintro e' w2 ⟨rfl, rfl⟩
      clear HF
      go_wp2_with (at_builtin; refine wpList_append_own _ rfl _ _ 24 rfl w.heap.size 32 i0 _ 5 72 Tryd.underlying24 hi hz0 hz1 hz2 rfl (by decide) (.slice ap am ac) l.length (toksCells l) rfl (HTK.out.1.alloc _) ⟨w2.heap.size, 0, none⟩ 1 1 [.int .i64 4, .string ⟨#[]⟩, .slice none 0 0, .bool false, .string (s.extract (q + 4) (q + 4 + F))] rfl rfl (five_new w2 _ _ _ _ _ _) (five_one _ _ _ _ _ _ _) (by unfold maxLen; omega) (by omega) (by have := HSZ.out; simp; omega) ?_)
      intro v' w90 hown9 hgr9 _
      obtain ⟨bp0, bm0, bc0, rfl⟩ := own_slice hown9
      have HT9 := hide (ToksAt.plain 4 (s.extract (q + 4) (q + 4 + F)) HTK.out hown9 hgr9)
      have HB9 := hide (bel_more HTK.out HBW.out HSZ.out hgr9)
      clear hown9 hgr9
      go_wp2_with fail
      go_roundg (s.size - E)
      case measure => omega
      case rel => exact ⟨E, _, by rw [← hmin], by omega, by rw [List.length_append]; simp; omega, HT9.out, HB9.out, by rw [List.map_append]; exact HN⟩
    · -- the empty tag
      have hst := toks_none _ hb
      have hcut := cut_find [62] (by decide) ((bl s).drop q)
      have hf3 : findF [62] ((bl s).drop q) = 2 := by
        rw [hr3]
        rfl
      rw [hcut.2, hf3, List.drop_drop] at hst
      have h3 : q + 3 ≤ s.size := by
        have := hlen
        rw [hr3] at this
        simp only [List.length_cons] at this
        omega
      have HN : Hid (l.map Prod.fst ++ toks ((bl s).drop (q + 3)) = toks (bl s)) := hide (by
        rw [← HA.out, hst]
        rfl)
      clear hst hcut hf3 HA hne hlen hb hr3
      go_wp2_with fail
      go_roundg (s.size - (q + 3))
      case measure => omega
      case rel => exact ⟨q + 3, l, by first | rfl | (rw [wrap64_in _ ⟨by omega, by omega⟩]; rfl) | simp, by omega, by omega, HTK.out, HBW.out, HN⟩
    · -- what is passed over
      have hf := fun w => find_any s q ⟨#[62]⟩ (by omega) (by omega) (by decide) w
      rw [show bl ⟨#[62]⟩ = [62] from rfl] at hf
      have hfl := findF_le [62] ((bl s).drop q)
      rw [List.length_drop, bl_len] at hfl
      have hcut := cut_find [62] (by decide) ((bl s).drop q)
      have hst := toks_none _ hb
      rw [hcut.2] at hst
      obtain ⟨F, hF⟩ : ∃ F, F = findF [62] ((bl s).drop q) := ⟨_, rfl⟩
      rw [← hF] at hf hfl hst
      obtain ⟨E, hE⟩ : ∃ E, E = min (q + F + 1) s.size := ⟨_, rfl⟩
      have hEd : (bl s).drop E = ((bl s).drop q).drop (F + 1) := by
        rw [List.drop_drop, hE, show q + (F + 1) = q + F + 1 by omega]
        by_cases h : q + F + 1 ≤ s.size
        · rw [Nat.min_eq_left h]
        · rw [Nat.min_eq_right (by omega), List.drop_eq_nil_of_le (by rw [bl_len]; exact Nat.le_refl _), List.drop_eq_nil_of_le (by rw [bl_len]; omega)]
      have HN : Hid (l.map Prod.fst ++ toks ((bl s).drop E) = toks (bl s)) := hide (by
        rw [← HA.out, hst, hEd]
        rfl)
      have hEa : q < E ∧ E ≤ s.size := by omega
      have hmin : min ((q : Int) + (F : Int) + 1) (s.size : Int) = (E : Int) := by
        rw [hE]
        omega
      have hf : ∀ w, Calls Tryd.prog 27 #[.string s, .int .i64 (q : Int), .string ⟨#[62]⟩] w fun e w' => e = .returned (.int .i64 ((q : Int) + (F : Int))) ∧ w' = w := hf
      have HF := hide hf
      obtain ⟨hEa, hEc⟩ := hEa
      clear hf hcut hst hF hE hEd HA hne hlen hb
      go_wp2_with fail
      refine (HF.out _).mono ?_
      rintro e' w2 ⟨rfl, rfl⟩
      clear HF
      go_wp2_with fail
      go_roundg (s.size - E)
      case measure => omega
      case rel => exact ⟨E, l, by rw [← hmin], by omega, by omega, HTK.out, HBW.out, HN⟩
    · -- a start
      have hq1 : q + 1 ≤ s.size := by
        have := beg_three hb
        rw [hlen] at this
        omega
      have hbody : tagBody ((bl s).drop q) = (bl s).drop (q + 1) := by
        unfold tagBody
        rw [if_neg h47, List.drop_drop]
      have htag := fun w => rtag_any s (q + 1) hq1 (by omega) w
      rw [← hbody] at htag
      have hnl := tw_le (fun x => !isNm x) (tagBody ((bl s).drop q))
      rw [hbody, List.length_drop, bl_len, ← hbody] at hnl
      obtain ⟨NM, hNM⟩ : ∃ N : ByteArray, N = ⟨(lower ((tagBody ((bl s).drop q)).takeWhile (fun x => !isNm x))).toArray⟩ := ⟨_, rfl⟩
      rw [← hNM] at htag
      have hNb : bl NM = lower ((tagBody ((bl s).drop q)).takeWhile (fun x => !isNm x)) := by rw [hNM]
      have hNs : NM.size ≤ 5000 := by
        rw [← bl_len, hNb]
        unfold lower
        rw [List.length_map]
        omega
      have HTO : Hid (tagOf ((bl s).drop q) = (attrsOf [] ((tagBody ((bl s).drop q)).dropWhile (fun x => !isNm x))).map fun p => ((⟨2, bl NM, p.1, p.2.1, []⟩ : Tk), p.2.2)) := hide (by
        unfold tagOf
        rw [hNb]
        cases attrsOf [] ((tagBody ((bl s).drop q)).dropWhile (fun x => !isNm x)) with
        | none => rfl
        | some p =>
          obtain ⟨a, cl, r⟩ := p
          simp only [Option.map_some]
          rw [if_neg h47])
      generalize attrsOf [] ((tagBody ((bl s).drop q)).dropWhile (fun x => !isNm x)) = tg at htag HTO
      have htag : ∀ w, Calls Tryd.prog 28 #[.string s, .int .i64 ((q : Int) + 4 - 3)] w fun e w' => TRet s NM tg w e w' := by
        intro w
        have := htag w
        rw [show ((q + 1 : Nat) : Int) = (q : Int) + 4 - 3 by omega] at this
        exact this
      have HTAG := hide htag
      have HBG := hide hb
      clear htag hbody hnl hNM hNb hb h47 hne hlen
      go_wp2_with fail
      refine (HTAG.out _).mono ?_
      rintro e' w2 ⟨hb2, ⟨rfl, rfl⟩ | ⟨acc, cl, r, av, rfl, q2, hq2, hdq2, rfl, hav⟩⟩
      · have HF : Hid (l.map Prod.fst = toks (bl s)) := hide (by rw [← HA.out, toks_cutoff _ HBG.out HTO.out, List.append_nil])
        have HT2 := hide (HTK.out.below hb2)
        have HB2 := hide (bel2 HBW.out hb2)
        have HB3 : Hid (∀ o, Below w.heap.size w (w2.alloc o)) := hide (fun o => bel2 HB2.out ((Below.refl _ _).alloc (Nat.le_refl _) _))
        have HT3 : Hid (∀ o, ToksAt (w2.alloc o) w.heap.size (.slice ap am ac) l) := hide (fun o => HT2.out.below ((Below.refl _ _).alloc (Nat.le_refl _) _))
        clear hb2 HTAG HA HTO HBG
        go_wp2_with fail
        go_ret
        exact ⟨_, l, rfl, HF.out, HT3.out _, HB3.out _⟩
      · have hq2q : q < q2 := by
          have h1 := tagOf_len (HTO.out.trans rfl)
          rw [← hdq2, List.length_drop, List.length_drop, bl_len] at h1
          omega
        have hst := toks_tag _ _ _ HBG.out (HTO.out.trans rfl)
        obtain ⟨vp, vm, vc, rfl⟩ := own_slice hav
        obtain ⟨wt, hwt⟩ : ∃ wt, wt = w2.alloc (.cells #[.int .i64 2, .string NM, .slice vp vm vc, .bool cl, .string ⟨#[]⟩] 32) := ⟨_, rfl⟩
        have hbt : Below w2.heap.size w2 wt := by
          rw [hwt]
          exact (Below.refl _ _).alloc (Nat.le_refl _) _
        have hob : ∀ o, ((wt.alloc o).heap[w2.heap.size]? = some (.cells #[.int .i64 2, .string NM, .slice vp vm vc, .bool cl, .string ⟨#[]⟩] 32 (0, 0))) ∧ w2.heap.size < (wt.alloc o).heap.size := by
          intro o
          have h1 : wt.heap[w2.heap.size]? = some (.cells #[.int .i64 2, .string NM, .slice vp vm vc, .bool cl, .string ⟨#[]⟩] 32 (0, 0)) := by
            rw [hwt]
            exact Array.getElem?_push_size
          have h2 := lt_of_block h1
          exact ⟨(Below.heap_alloc _ _ _ h2).trans h1, by simp; omega⟩
        have HOB := hide hob
        have HOW : Hid ((Value.slice ap am ac).ownBlock ≠ some w2.heap.size) := hide (fun e => by
          have h1 := ((HTK.out.below hb2).1.lt _ e).2
          omega)
        have HTT := hide ((HTK.out.below hb2).below hbt)
        have HBT := hide (bel2 (bel2 HBW.out hb2) hbt)
        have HST : Hid (w.heap.size ≤ wt.heap.size) := hide HBT.out.size
        have HAV := hide (own_below (own_base hav HSZ.out) hbt)
        have HQD := hide hdq2
        have hd9 : decide ((q2 : Int) < 0) = false := decide_eq_false (by omega)
        have t0 : wt.cell? ⟨w2.heap.size, 0, none⟩ = some (.int .i64 2) := by rw [hwt]; simp
        have t1 : wt.cell? ⟨w2.heap.size, 1, none⟩ = some (.string NM) := by rw [hwt]; simp
        have t2 : wt.cell? ⟨w2.heap.size, 2, none⟩ = some (.slice vp vm vc) := by rw [hwt]; simp
        have t3 : wt.cell? ⟨w2.heap.size, 3, none⟩ = some (.bool cl) := by rw [hwt]; simp
        have t4 : wt.cell? ⟨w2.heap.size, 4, none⟩ = some (.string ⟨#[]⟩) := by rw [hwt]; simp
        have HTO2 := hide hst
        have hd10 : decide ((0 : Int) ≤ (q2 : Int)) = true := decide_eq_true (by omega)
        clear hst HTAG HTO HBG hbt hob hdq2 hav hb2
        go_upto_region 8 with fail
        rw [← hwt]
        clear hwt
        go_wp2_with (at_builtin; refine wpList_append_own _ rfl _ _ 24 rfl w.heap.size 32 i0 _ 5 72 Tryd.underlying24 hi hz0 hz1 hz2 rfl (by decide) (.slice ap am ac) l.length (toksCells l) rfl (HTT.out.1.alloc _) ⟨wt.heap.size, 0, none⟩ 1 1 [.int .i64 2, .string NM, .slice vp vm vc, .bool cl, .string ⟨#[]⟩] rfl rfl (five_new wt _ _ _ _ _ _) (five_one _ _ _ _ _ _ _) (by unfold maxLen; omega) (by omega) (by have := HST.out; simp; omega) ?_)
        intro v' w90 hown9 hgr9 _
        obtain ⟨bp, bm, bc, rfl⟩ := own_slice hown9
        have HT9 := hide (ToksAt.more (t := ⟨2, bl NM, acc, cl, []⟩) HTT.out HAV.out (by rw [tok_cells]; exact hown9) hgr9)
        obtain ⟨l2, hl2⟩ : ∃ l2, l2 = l ++ [(⟨2, bl NM, acc, cl, []⟩, .slice vp vm vc)] := ⟨_, rfl⟩
        rw [← hl2] at HT9
        have hl2n : l2.length ≤ l.length + 1 := by rw [hl2]; simp
        have HM2 : Hid (l2.map Prod.fst = l.map Prod.fst ++ [⟨2, bl NM, acc, cl, []⟩]) := hide (by rw [hl2, List.map_append]; rfl)
        clear hl2
        have HB9 := hide (bel_more HTT.out HBT.out HST.out hgr9)
        have hbx := (hgr9.block _ (HOB.out _).2 (fun e => HOW.out e.symm)).trans (HOB.out _).1
        have x1 : w90.cell? ⟨w2.heap.size, 1, none⟩ = some (.string NM) := tag_cell hbx 1 _ rfl
        have HRR := hide (fun w => refRaw_any NM w)
        clear hown9 hgr9 hbx HOB HOW HAV HTT HBT HST t0 t1 t2 t3 t4
        obtain ⟨rb, hrb⟩ : ∃ rb, rb = rawOf (bl NM) := ⟨_, rfl⟩
        rw [← hrb] at HRR
        go_wp2_with fail
        refine (HRR.out _).mono ?_
        rintro e' w10 ⟨rfl, hb10⟩
        have HT10 := hide (HT9.out.below hb10)
        have HB10 := hide (bel2 HB9.out hb10)
        have y1 := cell_kept x1 hb10
        clear HRR hb10 HT9 HB9 x1
        cases rb with
        | none =>
          have HN : Hid ((l.map Prod.fst ++ [⟨2, bl NM, acc, cl, []⟩]) ++ toks ((bl s).drop q2) = toks (bl s)) := hide (by
            have h1 := HTO2.out
            rw [withRaw_none _ _ _ _ _ hrb.symm] at h1
            rw [← HA.out, h1, HQD.out, List.append_assoc]
            simp only [List.cons_append, List.nil_append])
          clear HA HTO2 HQD hrb
          go_wp2_with fail
          go_roundg (s.size - q2)
          case measure => omega
          case rel => exact ⟨q2, l2, rfl, by omega, by omega, HT10.out, HB10.out, by rw [HM2.out]; exact HN⟩
        | some b =>
          have hen := fun w => ends_any s q2 NM hq2 (by omega) (by omega) w
          rw [HQD.out] at hen
          obtain ⟨n, hn⟩ : ∃ n, n = rawLen (bl NM) r := ⟨_, rfl⟩
          have hnl := rawLen_le (bl NM) r
          have hrl : r.length = s.size - q2 := by rw [← HQD.out, List.length_drop, bl_len]
          rw [← hn] at hen hnl
          have hen : ∀ w, Calls Tryd.prog 29 #[.string s, .int .i64 (q2 : Int), .string NM] w fun e w' => e = .returned (.int .i64 ((q2 : Int) + (n : Int))) ∧ Below w.heap.size w w' := hen
          have hx : bl (s.extract q2 (q2 + n)) = r.take n := by
            rw [ext_mid, Nat.add_sub_cancel_left]
            show ((bl s).drop q2).take n = _
            rw [HQD.out]
          have hxs : (s.extract q2 (q2 + n)).size = n := by
            rw [← bl_len, hx, List.length_take]
            omega
          have hqn : q2 + n ≤ s.size := by omega
          have hdn : (bl s).drop (q2 + n) = r.drop n := by rw [← HQD.out, List.drop_drop]
          have hw : withRaw ⟨2, bl NM, acc, cl, []⟩ r = if n = 0 then ([], r) else ([⟨1, [], [], false, if b then res (r.take n) else r.take n⟩], r.drop n) := by
            unfold withRaw
            rw [if_pos rfl]
            simp only [← hrb, ← hn]
          have HEN := hide hen
          by_cases hn0 : n = 0
          · have HN : Hid ((l.map Prod.fst ++ [⟨2, bl NM, acc, cl, []⟩]) ++ toks ((bl s).drop (q2 + n)) = toks (bl s)) := hide (by
              have h1 := HTO2.out
              rw [hw, if_pos hn0] at h1
              rw [← HA.out, h1, hdn, hn0, List.drop_zero, List.append_assoc]
              simp only [List.cons_append, List.nil_append])
            have hxe : (s.extract q2 (q2 + n)).toList.isEmpty = true := empty_of (by rw [hx, hn0, List.take_zero])
            cases b with
            | false =>
              clear hen hn hnl hrl hx hdn hw HA HTO2 HQD hrb hn0
              go_wp2_with fail
              refine (HEN.out _).mono ?_
              rintro e' w12 ⟨rfl, hb12⟩
              have HT12 := hide (HT10.out.below hb12)
              have HB12 := hide (bel2 HB10.out hb12)
              clear hb12 HEN
              go_wp2_with fail
              go_roundg (s.size - (q2 + n))
              case measure => omega
              case rel => exact ⟨q2 + n, l2, by first | rfl | simp, by omega, by omega, HT12.out, HB12.out, by rw [HM2.out]; exact HN⟩
            | true =>
              have hrs := fun w => Doc.refResolve_any (s.extract q2 (q2 + n)) (by omega) w
              rw [show (⟨(res (bl (s.extract q2 (q2 + n)))).toArray⟩ : ByteArray) = ⟨#[]⟩ by rw [hx, hn0, List.take_zero, res_nil]] at hrs
              have HRS := hide hrs
              clear hen hn hnl hrl hx hdn hw HA HTO2 HQD hrb hn0 hrs hxe
              go_wp2_with fail
              refine (HEN.out _).mono ?_
              rintro e' w12 ⟨rfl, hb12⟩
              have HT12 := hide (HT10.out.below hb12)
              have HB12 := hide (bel2 HB10.out hb12)
              clear hb12 HEN
              go_wp2_with fail
              refine (HRS.out _).mono ?_
              rintro e' w13 ⟨rfl, hb13⟩
              have HT14 := hide (HT12.out.below hb13)
              have HB14 := hide (bel2 HB12.out hb13)
              clear hb13 HRS
              go_wp2_with fail
              go_roundg (s.size - (q2 + n))
              case measure => omega
              case rel => exact ⟨q2 + n, l2, by first | rfl | simp, by omega, by omega, HT14.out, HB14.out, by rw [HM2.out]; exact HN⟩
          · have hnx : r.take n ≠ [] := by
              intro e
              have := congrArg List.length e
              rw [List.length_take, List.length_nil] at this
              omega
            cases b with
            | false =>
              have HN : Hid (((l.map Prod.fst ++ [⟨2, bl NM, acc, cl, []⟩]) ++ [⟨1, [], [], false, bl (s.extract q2 (q2 + n))⟩]) ++ toks ((bl s).drop (q2 + n)) = toks (bl s)) := hide (by
                have h1 := HTO2.out
                rw [hw, if_neg hn0] at h1
                rw [← HA.out, h1, hdn, hx, List.append_assoc, List.append_assoc]
                simp only [List.cons_append, List.nil_append]
                rfl)
              have hxe : (s.extract q2 (q2 + n)).toList.isEmpty = false := not_empty (by rw [hx]; exact hnx)
              clear hen hn hnl hrl hx hdn hw HA HTO2 HQD hrb hn0 hnx
              go_wp2_with fail
              refine (HEN.out _).mono ?_
              rintro e' w12 ⟨rfl, hb12⟩
              have HT12 := hide (HT10.out.below hb12)
              have HB12 := hide (bel2 HB10.out hb12)
              have HS12 : Hid (w.heap.size ≤ w12.heap.size) := hide HB12.out.size
              clear hb12 HEN
              go_wp2_with (at_builtin; refine wpList_append_own _ rfl _ _ 24 rfl w.heap.size 32 i0 _ 5 72 Tryd.underlying24 hi hz0 hz1 hz2 rfl (by decide) (.slice bp bm bc) l2.length (toksCells l2) rfl (HT12.out.1.alloc _) ⟨w12.heap.size, 0, none⟩ 1 1 [.int .i64 1, .string ⟨#[]⟩, .slice none 0 0, .bool false, .string (s.extract q2 (q2 + n))] rfl rfl (five_new w12 _ _ _ _ _ _) (five_one _ _ _ _ _ _ _) (by unfold maxLen; omega) (by omega) (by have := HS12.out; simp; omega) ?_)
              intro v' w91 hown9 hgr9 _
              obtain ⟨cp, cm, cc, rfl⟩ := own_slice hown9
              have HT13 := hide (ToksAt.plain 1 (s.extract q2 (q2 + n)) HT12.out hown9 hgr9)
              have HB13 := hide (bel_more HT12.out HB12.out HS12.out hgr9)
              clear hown9 hgr9
              go_wp2_with fail
              go_roundg (s.size - (q2 + n))
              case measure => omega
              case rel => exact ⟨q2 + n, _, by first | rfl | simp, by omega, by rw [List.length_append]; simp; omega, HT13.out, HB13.out, by rw [List.map_append, HM2.out]; exact HN⟩
            | true =>
              have hrs := fun w => Doc.refResolve_any (s.extract q2 (q2 + n)) (by omega) w
              obtain ⟨V, hV⟩ : ∃ V : ByteArray, V = ⟨(res (bl (s.extract q2 (q2 + n)))).toArray⟩ := ⟨_, rfl⟩
              rw [← hV] at hrs
              have hVb : bl V = res (r.take n) := by rw [hV, hx]
              have HN : Hid (((l.map Prod.fst ++ [⟨2, bl NM, acc, cl, []⟩]) ++ [⟨1, [], [], false, bl V⟩]) ++ toks ((bl s).drop (q2 + n)) = toks (bl s)) := hide (by
                have h1 := HTO2.out
                rw [hw, if_neg hn0] at h1
                rw [← HA.out, h1, hdn, hVb, List.append_assoc, List.append_assoc]
                simp only [List.cons_append, List.nil_append]
                rfl)
              have hxe : V.toList.isEmpty = false := not_empty (by rw [hVb]; exact res_ne _ hnx)
              have HRS := hide hrs
              clear hen hn hnl hrl hx hdn hw HA HTO2 HQD hrb hn0 hnx hrs hV hVb
              go_wp2_with fail
              refine (HEN.out _).mono ?_
              rintro e' w12 ⟨rfl, hb12⟩
              have HT12 := hide (HT10.out.below hb12)
              have HB12 := hide (bel2 HB10.out hb12)
              clear hb12 HEN
              go_wp2_with fail
              refine (HRS.out _).mono ?_
              rintro e' w13 ⟨rfl, hb13⟩
              have HT14 := hide (HT12.out.below hb13)
              have HB14 := hide (bel2 HB12.out hb13)
              have HS14 : Hid (w.heap.size ≤ w13.heap.size) := hide HB14.out.size
              clear hb13 HRS HT12 HB12
              go_wp2_with (at_builtin; refine wpList_append_own _ rfl _ _ 24 rfl w.heap.size 32 i0 _ 5 72 Tryd.underlying24 hi hz0 hz1 hz2 rfl (by decide) (.slice bp bm bc) l2.length (toksCells l2) rfl (HT14.out.1.alloc _) ⟨w13.heap.size, 0, none⟩ 1 1 [.int .i64 1, .string ⟨#[]⟩, .slice none 0 0, .bool false, .string V] rfl rfl (five_new w13 _ _ _ _ _ _) (five_one _ _ _ _ _ _ _) (by unfold maxLen; omega) (by omega) (by have := HS14.out; simp; omega) ?_)
              intro v' w91 hown9 hgr9 _
              obtain ⟨cp, cm, cc, rfl⟩ := own_slice hown9
              have HT13 := hide (ToksAt.plain 1 V HT14.out hown9 hgr9)
              have HB13 := hide (bel_more HT14.out HB14.out HS14.out hgr9)
              clear hown9 hgr9
              go_wp2_with fail
              go_roundg (s.size - (q2 + n))
              case measure => omega
              case rel => exact ⟨q2 + n, _, by first | rfl | simp, by omega, by rw [List.length_append]; simp; omega, HT13.out, HB13.out, by rw [List.map_append, HM2.out]; exact HN⟩
    · -- an end
      have hq1 : q + 2 ≤ s.size := by
        have := beg_three hb
        rw [hlen] at this
        omega
      have hbody : tagBody ((bl s).drop q) = (bl s).drop (q + 2) := by
        unfold tagBody
        rw [if_pos h47, List.drop_drop]
      have htag := fun w => rtag_any s (q + 2) hq1 (by omega) w
      rw [← hbody] at htag
      have hnl := tw_le (fun x => !isNm x) (tagBody ((bl s).drop q))
      rw [hbody, List.length_drop, bl_len, ← hbody] at hnl
      obtain ⟨NM, hNM⟩ : ∃ N : ByteArray, N = ⟨(lower ((tagBody ((bl s).drop q)).takeWhile (fun x => !isNm x))).toArray⟩ := ⟨_, rfl⟩
      rw [← hNM] at htag
      have hNb : bl NM = lower ((tagBody ((bl s).drop q)).takeWhile (fun x => !isNm x)) := by rw [hNM]
      have hNs : NM.size ≤ 5000 := by
        rw [← bl_len, hNb]
        unfold lower
        rw [List.length_map]
        omega
      have HTO : Hid (tagOf ((bl s).drop q) = (attrsOf [] ((tagBody ((bl s).drop q)).dropWhile (fun x => !isNm x))).map fun p => ((⟨3, bl NM, [], false, []⟩ : Tk), p.2.2)) := hide (by
        unfold tagOf
        rw [hNb]
        cases attrsOf [] ((tagBody ((bl s).drop q)).dropWhile (fun x => !isNm x)) with
        | none => rfl
        | some p =>
          obtain ⟨a, cl, r⟩ := p
          simp only [Option.map_some]
          rw [if_pos h47])
      generalize attrsOf [] ((tagBody ((bl s).drop q)).dropWhile (fun x => !isNm x)) = tg at htag HTO
      have htag : ∀ w, Calls Tryd.prog 28 #[.string s, .int .i64 ((q : Int) + 5 - 3)] w fun e w' => TRet s NM tg w e w' := by
        intro w
        have := htag w
        rw [show ((q + 2 : Nat) : Int) = (q : Int) + 5 - 3 by omega] at this
        exact this
      have HTAG := hide htag
      have HBG := hide hb
      clear htag hbody hnl hNM hNb hb h47 hne hlen
      go_wp2_with fail
      refine (HTAG.out _).mono ?_
      rintro e' w2 ⟨hb2, ⟨rfl, rfl⟩ | ⟨acc, cl, r, av, rfl, q2, hq2, hdq2, rfl, hav⟩⟩
      · have HF : Hid (l.map Prod.fst = toks (bl s)) := hide (by rw [← HA.out, toks_cutoff _ HBG.out HTO.out, List.append_nil])
        have HT2 := hide (HTK.out.below hb2)
        have HB2 := hide (bel2 HBW.out hb2)
        have HB3 : Hid (∀ o, Below w.heap.size w (w2.alloc o)) := hide (fun o => bel2 HB2.out ((Below.refl _ _).alloc (Nat.le_refl _) _))
        have HT3 : Hid (∀ o, ToksAt (w2.alloc o) w.heap.size (.slice ap am ac) l) := hide (fun o => HT2.out.below ((Below.refl _ _).alloc (Nat.le_refl _) _))
        clear hb2 HTAG HA HTO HBG
        go_wp2_with fail
        go_ret
        exact ⟨_, l, rfl, HF.out, HT3.out _, HB3.out _⟩
      · have hq2q : q < q2 := by
          have h1 := tagOf_len (HTO.out.trans rfl)
          rw [← hdq2, List.length_drop, List.length_drop, bl_len] at h1
          omega
        have hst := toks_tag _ _ _ HBG.out (HTO.out.trans rfl)
        obtain ⟨vp, vm, vc, rfl⟩ := own_slice hav
        obtain ⟨wt, hwt⟩ : ∃ wt, wt = w2.alloc (.cells #[.int .i64 2, .string NM, .slice vp vm vc, .bool cl, .string ⟨#[]⟩] 32) := ⟨_, rfl⟩
        have hbt : Below w2.heap.size w2 wt := by
          rw [hwt]
          exact (Below.refl _ _).alloc (Nat.le_refl _) _
        have hob : ∀ o, ((wt.alloc o).heap[w2.heap.size]? = some (.cells #[.int .i64 2, .string NM, .slice vp vm vc, .bool cl, .string ⟨#[]⟩] 32 (0, 0))) ∧ w2.heap.size < (wt.alloc o).heap.size := by
          intro o
          have h1 : wt.heap[w2.heap.size]? = some (.cells #[.int .i64 2, .string NM, .slice vp vm vc, .bool cl, .string ⟨#[]⟩] 32 (0, 0)) := by
            rw [hwt]
            exact Array.getElem?_push_size
          have h2 := lt_of_block h1
          exact ⟨(Below.heap_alloc _ _ _ h2).trans h1, by simp; omega⟩
        have HOB := hide hob
        have HOW : Hid ((Value.slice ap am ac).ownBlock ≠ some w2.heap.size) := hide (fun e => by
          have h1 := ((HTK.out.below hb2).1.lt _ e).2
          omega)
        have HTT := hide ((HTK.out.below hb2).below hbt)
        have HBT := hide (bel2 (bel2 HBW.out hb2) hbt)
        have HST : Hid (w.heap.size ≤ wt.heap.size) := hide HBT.out.size
        have HAV := hide (own_below (own_base hav HSZ.out) hbt)
        have HQD := hide hdq2
        have hd9 : decide ((q2 : Int) < 0) = false := decide_eq_false (by omega)
        have t0 : wt.cell? ⟨w2.heap.size, 0, none⟩ = some (.int .i64 2) := by rw [hwt]; simp
        have t1 : wt.cell? ⟨w2.heap.size, 1, none⟩ = some (.string NM) := by rw [hwt]; simp
        have t2 : wt.cell? ⟨w2.heap.size, 2, none⟩ = some (.slice vp vm vc) := by rw [hwt]; simp
        have t3 : wt.cell? ⟨w2.heap.size, 3, none⟩ = some (.bool cl) := by rw [hwt]; simp
        have t4 : wt.cell? ⟨w2.heap.size, 4, none⟩ = some (.string ⟨#[]⟩) := by rw [hwt]; simp
        have HTO2 := hide hst
        have hd10 : decide ((0 : Int) ≤ (q2 : Int)) = true := decide_eq_true (by omega)
        clear hst HTAG HTO HBG hbt hob hdq2 hav hb2
        go_upto_region 8 with fail
        rw [← hwt]
        clear hwt
        have HN : Hid ((l.map Prod.fst ++ [⟨3, bl NM, [], false, []⟩]) ++ toks ((bl s).drop q2) = toks (bl s)) := hide (by
          have h1 := HTO2.out
          have h2 : withRaw ⟨3, bl NM, [], false, []⟩ r = ([], r) := by
            unfold withRaw
            rw [if_neg (by simp)]
          rw [h2] at h1
          rw [← HA.out, h1, HQD.out, List.append_assoc]
          simp only [List.cons_append, List.nil_append])
        clear HA HTO2 HQD HAV HOB HOW
        go_wp2_with (at_builtin; refine wpList_append_own _ rfl _ _ 24 rfl w.heap.size 32 i0 _ 5 72 Tryd.underlying24 hi hz0 hz1 hz2 rfl (by decide) (.slice ap am ac) l.length (toksCells l) rfl (HTT.out.1.alloc _) ⟨wt.heap.size, 0, none⟩ 1 1 [.int .i64 3, .string NM, .slice none 0 0, .bool false, .string ⟨#[]⟩] rfl rfl (five_new wt _ _ _ _ _ _) (five_one _ _ _ _ _ _ _) (by unfold maxLen; omega) (by omega) (by have := HST.out; simp; omega) ?_)
        intro v' w90 hown9 hgr9 _
        obtain ⟨bp, bm, bc, rfl⟩ := own_slice hown9
        have HT9 := hide (ToksAt.more (t := ⟨3, bl NM, [], false, []⟩) HTT.out (World.ownsRow_nil _ _ _ _) (by rw [tok_cells]; exact hown9) hgr9)
        have HB9 := hide (bel_more HTT.out HBT.out HST.out hgr9)
        clear hown9 hgr9
        go_wp2_with fail
        go_roundg (s.size - q2)
        case measure => omega
        case rel => exact ⟨q2, _, rfl, by omega, by rw [List.length_append]; simp; omega, HT9.out, HB9.out, by rw [List.map_append]; exact HN⟩
end Go.Proofs.YtjmgcdeinjamiaaDoor
