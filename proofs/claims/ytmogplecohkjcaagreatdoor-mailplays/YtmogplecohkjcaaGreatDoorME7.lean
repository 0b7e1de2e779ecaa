/-
  The program's Encode, walked.
-/
import Derived.Test.YtmogplecohkjcaaGreatDoorME6
namespace Go.Proofs.YtmogplecohkjcaaGreatDoor
open Go.RowKit
open Utf1
open Pol8 hiding text right Right
open Msg15

/-- A message as a value. -/
structure MV (w : World) (m : Ms) (vi vp v1 v2 v3 v4 v5 : Value) (ids : List ByteArray) (ts : List (ByteArray × ByteArray)) (l1 l2 l3 l4 l5 : List ByteArray) : Prop where
  hi : StrArg w vi ids
  hp : PostRow w vp ts
  hv : PolV w v1 v2 v3 v4 v5 m.pol l1 l2 l3 l4 l5
  ei : m.ids = ids.map bl
  ep : m.posts = ts.map (fun x => (bl x.1, bl x.2))
  hf : fits m.pol
  li : ids.length ≤ 100000
  lp : ts.length ≤ 100000
theorem MV.below {w w' : World} {m : Ms} {vi vp v1 v2 v3 v4 v5 : Value} {ids : List ByteArray} {ts : List (ByteArray × ByteArray)} {l1 l2 l3 l4 l5 : List ByteArray} (h : MV w m vi vp v1 v2 v3 v4 v5 ids ts l1 l2 l3 l4 l5) (hb : Below w.heap.size w w') : MV w' m vi vp v1 v2 v3 v4 v5 ids ts l1 l2 l3 l4 l5 :=
  ⟨h.hi.below hb, h.hp.below hb, h.hv.below hb, h.ei, h.ep, h.hf, h.li, h.lp⟩
/-- What Encode tells. -/
def EncQ (m : Ms) (e : Ending) : Prop := (MRight m ∧ e = .returned (.tuple #[.string ⟨(textM m).toArray⟩, .int .i64 0])) ∨ (¬ MRight m ∧ e = .returned (.tuple #[.string ⟨#[]⟩, .int .i64 2]))
/-- The letter's cells. -/
def lcells (k f t e : Int) (vi vp : Value) (p : Pol) (v1 v2 v3 v4 v5 : Value) : Nat → Value
  | 0 => .int .i64 k
  | 1 => .int .i64 f
  | 2 => .int .i64 t
  | 3 => .int .i64 e
  | 4 => vi
  | 5 => vp
  | 6 => .int .i64 p.ep
  | 7 => v1
  | 8 => v2
  | 9 => v3
  | 10 => v4
  | 11 => v5
  | 12 => .int .i64 p.dp
  | 13 => .int .i64 p.nd
  | _ => .int .i64 p.bt

set_option maxRecDepth 100000 in
set_option maxHeartbeats 16000000 in
theorem eencode_any (m : Ms) (vi vp v1 v2 v3 v4 v5 : Value) (ids : List ByteArray) (ts : List (ByteArray × ByteArray)) (l1 l2 l3 l4 l5 : List ByteArray) (w : World) (h : MV w m vi vp v1 v2 v3 v4 v5 ids ts l1 l2 l3 l4 l5) :
    Calls Tryz.prog 41 #[mval m.kind m.fr m.to m.ep vi vp m.pol v1 v2 v3 v4 v5] w fun e w' => EncQ m e ∧ Below w.heap.size w w' := by
  have CR : Hid (∀ wx, Below w.heap.size w wx → Calls Tryz.prog 25 #[mval m.kind m.fr m.to m.ep vi vp m.pol v1 v2 v3 v4 v5] wx fun e w' => BoolOf (MRight m) e ∧ Below wx.heap.size wx w') := hide (fun wx hx => by
    have h2 := h.below hx
    exact eright_any m.kind m.fr m.to m.ep vi vp ids ts v1 v2 v3 v4 v5 m.pol l1 l2 l3 l4 l5 wx h2.hi h2.hp h2.hv h2.hf h2.li h2.lp m (by rw [← h.ei, ← h.ep]))
  -- the letter's block is laid
  have CH : Hid (∀ (hR : MRight m) wx B, LW w w wx B (lcells m.kind m.fr m.to m.ep vi vp m.pol v1 v2 v3 v4 v5) [] → Calls Tryz.prog 59 #[.pointer (some ⟨B, 0, none⟩)] wx fun e w' => e = .returned (.tuple #[]) ∧ LW w w w' B (lcells m.kind m.fr m.to m.ep vi vp m.pol v1 v2 v3 v4 v5) (flds [dec m.kind.toNat, dec m.fr.toNat, dec m.to.toNat, dec m.ep.toNat])) := hide (fun hR wx B hx => by
    have k1 := hR.kind
    have k2 := hR.fr
    have k3 := hR.to
    have k4 := hR.ep
    have e1 : ((m.kind.toNat : Nat) : Int) = m.kind := Int.toNat_of_nonneg (by omega)
    have e2 : ((m.fr.toNat : Nat) : Int) = m.fr := Int.toNat_of_nonneg (by omega)
    have e3 : ((m.to.toNat : Nat) : Int) = m.to := Int.toNat_of_nonneg (by omega)
    have e4 : ((m.ep.toNat : Nat) : Int) = m.ep := Int.toNat_of_nonneg (by omega)
    exact ehead_any w w wx B _ m.kind.toNat m.fr.toNat m.to.toNat m.ep.toNat (by omega) (by omega) (by omega) (by omega) hx h.hv.g (by rw [e1]; rfl) (by rw [e2]; rfl) (by rw [e3]; rfl) (by rw [e4]; rfl))
  have CB : Hid (∀ (hR : MRight m) wx B, LW w w wx B (lcells m.kind m.fr m.to m.ep vi vp m.pol v1 v2 v3 v4 v5) (flds [dec m.kind.toNat, dec m.fr.toNat, dec m.to.toNat, dec m.ep.toNat]) → Calls Tryz.prog 60 #[.pointer (some ⟨B, 0, none⟩)] wx fun e w' => e = .returned (.tuple #[]) ∧ LW w w w' B (lcells m.kind m.fr m.to m.ep vi vp m.pol v1 v2 v3 v4 v5) (textM m)) := hide (fun hR wx B hx => by
    have hlen := text_len hR
    have hbody : textM m = flds [dec m.kind.toNat, dec m.fr.toNat, dec m.to.toNat, dec m.ep.toNat] ++ flds (body m) := textM_parts m
    rw [hbody, List.length_append] at hlen
    rw [hbody]
    rcases kinds hR with hk | hk | hk | hk
    · have hb : body m = dec ids.length :: ids.map bl := by
        unfold body
        rw [if_pos hk, h.ei, List.length_map]
      have hri := riseI_len hR.rids
      rw [h.ei, List.length_map] at hri
      rw [hb] at hlen ⊢
      exact ebody_ids w w wx B _ _ vi ids hx h.hv.g (by rw [hk]; rfl) rfl h.hi (by omega) (fun x hx2 => by
        have := hri.2 (bl x) (List.mem_map_of_mem hx2)
        rw [bl_len] at this
        omega) (by omega)
    · have hb : body m = dec ts.length :: two (ts.map (fun x => (bl x.1, bl x.2))) := by
        unfold body
        rw [if_neg (by omega), if_pos hk, h.ep, List.length_map]
      have hri := riseI_len hR.rposts
      have hrw := hR.raws
      rw [List.length_map, h.ep, List.length_map] at hri
      rw [h.ep] at hrw
      rw [hb] at hlen ⊢
      exact ebody_posts w wx B _ _ vp ts hx h.hv.g (by rw [hk]; rfl) rfl h.hp (by omega) (fun x hx2 => by
        have h1 := hri.2 (bl x.1) (by rw [List.map_map]; exact List.mem_map.2 ⟨x, hx2, rfl⟩)
        have h2 := hrw (bl x.1, bl x.2) (List.mem_map.2 ⟨x, hx2, rfl⟩)
        have h3 : (bl x.2).length ≤ 2000 := h2
        rw [bl_len] at h1 h3
        omega) (by omega)
    · have hb : body m = [Pol8.text m.pol] := by
        unfold body
        rw [if_neg (by omega), if_neg (by omega), if_pos hk]
      rw [hb] at hlen ⊢
      exact ebody_pol w wx B _ _ v1 v2 v3 v4 v5 m.pol l1 l2 l3 l4 l5 hx (by rw [hk]; rfl) rfl rfl rfl rfl rfl rfl rfl rfl rfl h.hv h.hf (hR.rpol hk) (by omega)
    · have hb : body m = [] := by
        unfold body
        rw [if_neg (by omega), if_neg (by omega), if_neg (by omega)]
      rw [hb]
      show Calls _ _ _ _ fun e w' => _ ∧ LW w w w' B _ (_ ++ [])
      rw [List.append_nil]
      exact ebody_ack w wx B _ _ hx (by rw [hk]; rfl))
  have HNE : Hid (textM m ≠ []) := hide (by
    rw [textM_parts]
    intro e
    have h1 := (List.append_eq_nil_iff.1 e).1
    have h2 : fld (dec m.kind.toNat) ++ flds [dec m.fr.toNat, dec m.to.toNat, dec m.ep.toNat] = [] := h1
    exact fld_ne _ (List.append_eq_nil_iff.1 h2).1)
  obtain ⟨pi, ni, ci, rfl⟩ : ∃ q n c, vi = .slice q n c := by obtain ⟨q, c, e, -, -⟩ := h.hi; exact ⟨_, _, _, e⟩
  obtain ⟨pp, np, cp, rfl⟩ : ∃ q n c, vp = .slice q n c := by obtain ⟨q, c, e, -, -, -⟩ := h.hp; exact ⟨_, _, _, e⟩
  obtain ⟨q1, n1, m1, rfl⟩ : ∃ q n c, v1 = .slice q n c := by obtain ⟨q, c, e, -, -⟩ := h.hv.s1; exact ⟨_, _, _, e⟩
  obtain ⟨q2, n2, m2, rfl⟩ : ∃ q n c, v2 = .slice q n c := by obtain ⟨q, c, e, -, -⟩ := h.hv.s2; exact ⟨_, _, _, e⟩
  obtain ⟨q3, n3, m3, rfl⟩ : ∃ q n c, v3 = .slice q n c := by obtain ⟨q, c, e, -, -⟩ := h.hv.s3; exact ⟨_, _, _, e⟩
  obtain ⟨q4, n4, m4, rfl⟩ : ∃ q n c, v4 = .slice q n c := by obtain ⟨q, c, e, -, -⟩ := h.hv.s4; exact ⟨_, _, _, e⟩
  obtain ⟨q5, n5, m5, rfl⟩ : ∃ q n c, v5 = .slice q n c := by obtain ⟨q, c, e, -, -⟩ := h.hv.s5; exact ⟨_, _, _, e⟩
  clear h
  obtain ⟨TM, hTM⟩ : ∃ x, x = MRight m := ⟨_, rfl⟩
  have HEN : Hid (∀ e, ((TM ∧ e = .returned (.tuple #[.string ⟨(textM m).toArray⟩, .int .i64 0])) ∨ (¬ TM ∧ e = .returned (.tuple #[.string ⟨#[]⟩, .int .i64 2]))) → EncQ m e) := hide (by rw [hTM]; exact fun e h => h)
  rw [← hTM] at CR CH CB
  clear hTM
  generalize textM m = TX at *
  generalize flds [dec m.kind.toNat, dec m.fr.toNat, dec m.to.toNat, dec m.ep.toNat] = T4 at *
  obtain ⟨EQ, hEQ⟩ : ∃ x, x = EncQ m := ⟨_, rfl⟩
  rw [← hEQ] at HEN ⊢
  clear hEQ
  generalize m.pol = p at *
  generalize m.kind = k at *
  generalize m.fr = f at *
  generalize m.to = t at *
  generalize m.ep = e at *
  clear m
  obtain ⟨w1, hw1⟩ : ∃ w1, w1 = w.alloc (.cells #[.int .i64 k, .int .i64 f, .int .i64 t, .int .i64 e, .slice pi ni ci, .slice pp np cp, .int .i64 p.ep, .slice q1 n1 m1, .slice q2 n2 m2, .slice q3 n3 m3, .slice q4 n4 m4, .slice q5 n5 m5, .int .i64 p.dp, .int .i64 p.nd, .int .i64 p.bt] 35) := ⟨_, rfl⟩
  have HN : Hid (MBox w #[.int .i64 k, .int .i64 f, .int .i64 t, .int .i64 e, .slice pi ni ci, .slice pp np cp, .int .i64 p.ep, .slice q1 n1 m1, .slice q2 n2 m2, .slice q3 n3 m3, .slice q4 n4 m4, .slice q5 n5 m5, .int .i64 p.dp, .int .i64 p.nd, .int .i64 p.bt] w1) := hide (by rw [hw1]; exact ⟨new_block _ _ _, bel_alloc (Below.refl _ _) _⟩)
  have SK : Hid (∀ wx, MBox w #[.int .i64 k, .int .i64 f, .int .i64 t, .int .i64 e, .slice pi ni ci, .slice pp np cp, .int .i64 p.ep, .slice q1 n1 m1, .slice q2 n2 m2, .slice q3 n3 m3, .slice q4 n4 m4, .slice q5 n5 m5, .int .i64 p.dp, .int .i64 p.nd, .int .i64 p.bt] wx → wx.cell? ⟨w.heap.size, 0, none⟩ = some (.int .i64 k) ∧ wx.cell? ⟨w.heap.size, 1, none⟩ = some (.int .i64 f) ∧ wx.cell? ⟨w.heap.size, 2, none⟩ = some (.int .i64 t) ∧ wx.cell? ⟨w.heap.size, 3, none⟩ = some (.int .i64 e) ∧ wx.cell? ⟨w.heap.size, 4, none⟩ = some (.slice pi ni ci) ∧ wx.cell? ⟨w.heap.size, 5, none⟩ = some (.slice pp np cp) ∧ wx.cell? ⟨w.heap.size, 6, none⟩ = some (.int .i64 p.ep) ∧ wx.cell? ⟨w.heap.size, 7, none⟩ = some (.slice q1 n1 m1) ∧ wx.cell? ⟨w.heap.size, 8, none⟩ = some (.slice q2 n2 m2) ∧ wx.cell? ⟨w.heap.size, 9, none⟩ = some (.slice q3 n3 m3) ∧ wx.cell? ⟨w.heap.size, 10, none⟩ = some (.slice q4 n4 m4) ∧ wx.cell? ⟨w.heap.size, 11, none⟩ = some (.slice q5 n5 m5) ∧ wx.cell? ⟨w.heap.size, 12, none⟩ = some (.int .i64 p.dp) ∧ wx.cell? ⟨w.heap.size, 13, none⟩ = some (.int .i64 p.nd) ∧ wx.cell? ⟨w.heap.size, 14, none⟩ = some (.int .i64 p.bt)) := hide (fun wx h => ⟨h.cell 0 _ rfl, h.cell 1 _ rfl, h.cell 2 _ rfl, h.cell 3 _ rfl, h.cell 4 _ rfl, h.cell 5 _ rfl, h.cell 6 _ rfl, h.cell 7 _ rfl, h.cell 8 _ rfl, h.cell 9 _ rfl, h.cell 10 _ rfl, h.cell 11 _ rfl, h.cell 12 _ rfl, h.cell 13 _ rfl, h.cell 14 _ rfl⟩)
  go_enter Tryz.func41, Tryz.ntmps41
  go_upto_region 1 with fail
  rw [← hw1]
  clear hw1
  obtain ⟨y0, y1, y2, y3, y4, y5, y6, y7, y8, y9, y10, y11, y12, y13, y14⟩ := SK.out _ HN.out
  go_wp2_with fail
  refine (CR.out _ HN.out.2).mono ?_
  rintro e' w2 ⟨⟨b, rfl, hb⟩, hb2⟩
  have H2 := hide (HN.out.keep hb2)
  clear hb2 CR HN y0 y1 y2 y3 y4 y5 y6 y7 y8 y9 y10 y11 y12 y13 y14
  obtain ⟨y0, y1, y2, y3, y4, y5, y6, y7, y8, y9, y10, y11, y12, y13, y14⟩ := SK.out _ H2.out
  cases hbb : b with
  | false =>
    have HF : Hid (¬ TM) := hide (fun h => by have := hb.2 h; rw [hbb] at this; cases this)
    subst hbb
    clear hb
    go_wp2_with fail
    go_ret2
    exact ⟨HEN.out _ (.inr ⟨HF.out, rfl⟩), H2.out.2⟩
  | true =>
    have HT : Hid TM := hide (hb.1 hbb)
    have CH2 := hide (CH.out HT.out)
    have CB2 := hide (CB.out HT.out)
    subst hbb
    clear hb CH CB
    obtain ⟨w3, hw3⟩ : ∃ w3, w3 = w2.alloc (.cells #[.pointer none, .slice none 0 0, .int .i64 k, .int .i64 f, .int .i64 t, .int .i64 e, .slice pi ni ci, .slice pp np cp, .int .i64 p.ep, .slice q1 n1 m1, .slice q2 n2 m2, .slice q3 n3 m3, .slice q4 n4 m4, .slice q5 n5 m5, .int .i64 p.dp, .int .i64 p.nd, .int .i64 p.bt] 89) := ⟨_, rfl⟩
    have H3 : Hid (LW w w w3 w2.heap.size (lcells k f t e (.slice pi ni ci) (.slice pp np cp) p (.slice q1 n1 m1) (.slice q2 n2 m2) (.slice q3 n3 m3) (.slice q4 n4 m4) (.slice q5 n5 m5)) []) := hide (by
      rw [hw3]
      have hbw : Below w.heap.size w (w2.alloc (.cells #[.pointer none, .slice none 0 0, .int .i64 k, .int .i64 f, .int .i64 t, .int .i64 e, .slice pi ni ci, .slice pp np cp, .int .i64 p.ep, .slice q1 n1 m1, .slice q2 n2 m2, .slice q3 n3 m3, .slice q4 n4 m4, .slice q5 n5 m5, .int .i64 p.dp, .int .i64 p.nd, .int .i64 p.bt] 89)) := bel_alloc H2.out.2 _
      exact ⟨H2.out.2.size, ⟨hbw, fun _ _ _ h1 _ _ => (hbw.block _ (Array.getElem?_eq_some_iff.1 h1).1).trans h1⟩, .inl ⟨.slice none 0 0, new_block _ _ _, ⟨rfl, .inl ⟨rfl, rfl⟩⟩⟩⟩)
    go_upto_region 4 with fail
    rw [← hw3]
    clear hw3 y0 y1 y2 y3 y4 y5 y6 y7 y8 y9 y10 y11 y12 y13 y14
    go_wp2_with fail
    refine (CH2.out _ _ H3.out).mono ?_
    rintro e' w4 ⟨rfl, h4⟩
    have H4 := hide h4
    clear h4 CH2 H3
    go_wp2_with fail
    refine (CB2.out _ _ H4.out).mono ?_
    rintro e' w5 ⟨rfl, h5⟩
    have C5 := hide (eall_any w w w5 _ _ TX h5 HNE.out)
    clear h5 CB2 H4
    go_wp2_with fail
    refine C5.out.mono ?_
    rintro e' w6 ⟨rfl, h6⟩
    have H6 := hide h6
    clear h6 C5
    go_wp2_with fail
    go_ret2
    exact ⟨HEN.out _ (.inl ⟨HT.out, rfl⟩), H6.out⟩
end Go.Proofs.YtmogplecohkjcaaGreatDoor
