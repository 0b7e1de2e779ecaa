/-
  The law MailPlays.
-/
import Derived.Test.YtmogplecohkjcaaGreatDoorDTS
import Derived.Test.YtmogplecohkjcaaGreatDoorMLS
import Derived.Deep.CutBlock
import Derived.Laws.Tables
import Derived.Deep.WholeRow
namespace Go.Proofs.YtmogplecohkjcaaGreatDoor
open Go.RowKit
open Utf1
open Pol8 hiding text right Right
open Msg15 Mail17

theorem six_neq (a0 a1 a2 a3 a4 a5 : Int) (w : World) :
    (binOp .neq 47 (.agg #[.int .i64 a0, .int .i64 a1, .int .i64 a2, .int .i64 a3, .int .i64 a4, .int .i64 a5]) (.agg #[.int .i64 a0, .int .i64 a1, .int .i64 a2, .int .i64 a3, .int .i64 a4, .int .i64 a5])).run Tryz.prog w = .ok (.bool false) w := by
  have h := six_eql a0 a1 a2 a3 a4 a5 a0 a1 a2 a3 a4 a5 w
  rw [run_eql_struct] at h
  rw [run_neq_struct]
  cases hr : (Op.equalIn 10000 47 (.agg #[.int .i64 a0, .int .i64 a1, .int .i64 a2, .int .i64 a3, .int .i64 a4, .int .i64 a5]) (.agg #[.int .i64 a0, .int .i64 a1, .int .i64 a2, .int .i64 a3, .int .i64 a4, .int .i64 a5])).run Tryz.prog w with
  | ok b w' =>
    rw [hr] at h
    simp [Result.andThen] at h
    obtain ⟨h1, h2⟩ := h
    subst h1 h2
    rfl
  | _ => rw [hr] at h; simp [Result.andThen] at h
/-- What is read as texts stays where all texts stay. -/
theorem strArg_keepS {w w' : World} {v : Value} {ss : List ByteArray} (hS : ∀ (g o : Nat) (x : ByteArray), w.cell? ⟨g, o, none⟩ = some (.string x) → w'.cell? ⟨g, o, none⟩ = some (.string x)) (h : StrArg w v ss) : StrArg w' v ss := by
  obtain ⟨p, cap, rfl, h0, hc⟩ := h
  refine ⟨p, cap, rfl, h0, fun i s hi => ?_⟩
  obtain ⟨b, off, e, k⟩ := hc i s hi
  exact ⟨b, off, e, hS _ _ _ k⟩
theorem Im.ok.keepS {w w' : World} {t : Im} (hS : ∀ (g o : Nat) (x : ByteArray), w.cell? ⟨g, o, none⟩ = some (.string x) → w'.cell? ⟨g, o, none⟩ = some (.string x)) (hg : Glob w') (h : t.ok w) : t.ok w' := by
  have hp : PostRow w' t.vp t.ts := by
    obtain ⟨p, cap, e, hc, h0, hi⟩ := h.hp
    refine ⟨p, cap, e, hc, h0, fun i a b hab => ?_⟩
    obtain ⟨g, off, e2, k1, k2⟩ := hi i a b hab
    exact ⟨g, off, e2, hS _ _ _ k1, hS _ _ _ k2⟩
  exact ⟨strArg_keepS hS h.hi, hp, ⟨strArg_keepS hS h.hv.s1, strArg_keepS hS h.hv.s2, strArg_keepS hS h.hv.s3, strArg_keepS hS h.hv.s4, strArg_keepS hS h.hv.s5, h.hv.e1, h.hv.e2, h.hv.e3, h.hv.e4, h.hv.e5, hg⟩, h.ei, h.ep, h.hf, h.li, h.lp⟩
theorem RB.texts {W0 w w' : World} {rb : Nat} {ts : List Im} {p : Option Addr} {c : Nat} (h : RB W0 w rb ts p c) (hk : Keep w w' [rb]) : ∀ (g o : Nat) (x : ByteArray), w.cell? ⟨g, o, none⟩ = some (.string x) → w'.cell? ⟨g, o, none⟩ = some (.string x) := fun g o x hx => by
  have hlt : g < w.heap.size := by
    unfold World.cell? at hx
    cases e : w.heap[g]? with
    | none => rw [show w.heap[(⟨g, o, none⟩ : Addr).block]? = none from e] at hx; simp at hx
    | some ob => exact (Array.getElem?_eq_some_iff.1 e).1
  by_cases e : g = rb
  · subst e
    exfalso
    unfold World.cell? at hx
    rw [show w.heap[(⟨g, o, none⟩ : Addr).block]? = _ from h.b] at hx
    match o, hx with
    | 0, hx => simp at hx
    | o + 1, hx => simp at hx
  · have hb := hk.block g hlt (fun k => e (List.mem_singleton.1 k))
    unfold World.cell? at hx ⊢
    rw [show w'.heap[(⟨g, o, none⟩ : Addr).block]? = w.heap[(⟨g, o, none⟩ : Addr).block]? from hb]
    exact hx
theorem TSm.push {Bx : World → Value → List Ms → List Nat → Prop} {w0 : World} {Q : List Nat} {wx : World} {a : Addr} {rb : Nat} {ms : List Ms} {ts : List Im} {p : Option Addr} {c : Nat} (C : MailC Bx) (h : TSm Bx w0 Q wx a rb ms ts p c) (o : Obj) : TSm Bx w0 (wx.heap.size :: Q) (wx.alloc o) a rb ms ts p c := by
  obtain ⟨F, h1, h2⟩ := h.b
  have hb : Below wx.heap.size wx (wx.alloc o) := bel_alloc (Below.refl _ _) o
  have hs := h.r.bw.size
  refine ⟨h.f1, h.f2, h.r.below hb, fun q hq => ?_, F, C.stay h1 (fun k hk => hb.block k (C.lt h1 k hk)), fun k hk => ⟨(h2 k hk).1, (h2 k hk).2.1, fun e => ?_⟩⟩
  · rcases List.mem_cons.1 hq with rfl | hq
    · exact ⟨hs, by simp, fun e => by have := (h.r.blk _ e).2; omega⟩
    · exact ⟨(h.q q hq).1, Nat.lt_of_lt_of_le (h.q q hq).2.1 hb.size, (h.q q hq).2.2⟩
  · have := C.lt h1 k hk
    rcases List.mem_cons.1 e with e | e
    · omega
    · exact (h2 k hk).2.2 e
theorem take_rk {Bx : World → Value → List Ms → List Nat → Prop} {w0 : World} {Q : List Nat} {wx : World} {a : Addr} {rb : Nat} {ms : List Ms} {ts : List Im} {p : Option Addr} {c : Nat} (C : MailC Bx) (hg : GlobM w0) (h : TSm Bx w0 Q wx a rb ms ts p c) (n : Int) : Calls Tryz.prog 14 #[.pointer (some ⟨rb, 0, none⟩), .int .i64 n] wx fun e w' => (∃ (t : Im) (b : Bool) (ts' : List Im) (p' : Option Addr) (c' : Nat), e = .returned (.tuple #[t.val, .bool b]) ∧ t.ok w' ∧ TakeR (ts.map Im.m) n b t.m (ts'.map Im.m) ∧ TSm Bx w0 Q w' a rb ms ts' p' c') ∧ Lv w0 Q wx w' ∧ Keep wx w' [rb] := by
  refine (rtake_any w0 rb ts p c n wx (h.glob hg) h.r h.f2).mono ?_
  rintro e w' ⟨⟨t, b, ts', p', c', rfl, ht, hp, hr, hn⟩, hk⟩
  have hs := h.stepR C hr (hp.fine h.f2) hn hk
  exact ⟨⟨t, b, ts', p', c', rfl, ht, hp, hs.1⟩, hs.2, hk⟩
theorem Im.shapeR {w : World} {t : Im} (h : t.raw w) : ∃ (pi : Option Addr) (ni ci : Nat) (pp : Option Addr) (np cp : Nat) (p1 : Option Addr) (n1 c1 : Nat) (p2 : Option Addr) (n2 c2 : Nat) (p3 : Option Addr) (n3 c3 : Nat) (p4 : Option Addr) (n4 c4 : Nat) (p5 : Option Addr) (n5 c5 : Nat), t.vi = .slice pi ni ci ∧ t.vp = .slice pp np cp ∧ t.v1 = .slice p1 n1 c1 ∧ t.v2 = .slice p2 n2 c2 ∧ t.v3 = .slice p3 n3 c3 ∧ t.v4 = .slice p4 n4 c4 ∧ t.v5 = .slice p5 n5 c5 := by
  obtain ⟨pi, ni, ci, ei⟩ : ∃ q n c, t.vi = .slice q n c := by obtain ⟨q, c, e, -, -⟩ := h.hi; exact ⟨_, _, _, e⟩
  obtain ⟨pp, np, cp, ep⟩ : ∃ q n c, t.vp = .slice q n c := by obtain ⟨q, c, e, -, -, -⟩ := h.hp; exact ⟨_, _, _, e⟩
  obtain ⟨p1, n1, c1, e1⟩ : ∃ q n c, t.v1 = .slice q n c := by obtain ⟨q, c, e, -, -⟩ := h.hv.s1; exact ⟨_, _, _, e⟩
  obtain ⟨p2, n2, c2, e2⟩ : ∃ q n c, t.v2 = .slice q n c := by obtain ⟨q, c, e, -, -⟩ := h.hv.s2; exact ⟨_, _, _, e⟩
  obtain ⟨p3, n3, c3, e3⟩ : ∃ q n c, t.v3 = .slice q n c := by obtain ⟨q, c, e, -, -⟩ := h.hv.s3; exact ⟨_, _, _, e⟩
  obtain ⟨p4, n4, c4, e4⟩ : ∃ q n c, t.v4 = .slice q n c := by obtain ⟨q, c, e, -, -⟩ := h.hv.s4; exact ⟨_, _, _, e⟩
  obtain ⟨p5, n5, c5, e5⟩ : ∃ q n c, t.v5 = .slice q n c := by obtain ⟨q, c, e, -, -⟩ := h.hv.s5; exact ⟨_, _, _, e⟩
  exact ⟨pi, ni, ci, pp, np, cp, p1, n1, c1, p2, n2, c2, p3, n3, c3, p4, n4, c4, p5, n5, c5, ei, ep, e1, e2, e3, e4, e5⟩
theorem light_im (t : Im) (w : World) (h : t.raw w) : Calls Tryz.prog 10 #[t.val] w fun e w' => (∃ b : Bool, e = .returned (.bool b) ∧ (b = true → light t.m.pol ∧ t.ids.length ≤ 100 ∧ t.ts.length ≤ 100 ∧ (MRight t.m → Sml t.m))) ∧ Below w.heap.size w w' := by
  refine (mlight_any t.m.kind t.m.fr t.m.to t.m.ep t.vi t.vp t.ids t.ts _ _ _ _ _ t.m.pol _ _ _ _ _ w h.hi h.hp h.hv).mono ?_
  rintro e w' ⟨⟨b, h1, h2⟩, h3⟩
  exact ⟨⟨b, h1, fun k => ⟨(h2 k).1, (h2 k).2.1, (h2 k).2.2.1, fun hr => Nat.le_trans (light_short hr (by
    have := (h2 k).2.2.2
    rw [h.ep, List.map_map]
    show mSum (t.ts.map (fun x => bl x.2)) < 20000
    omega)) (by decide)⟩⟩, h3⟩
theorem OpRow.at {w : World} {p : Option Addr} {n c : Nat} {os : List MOp} (h : OpRow w (.slice p n c) os) {i : Nat} (hi : i < n) : ∃ (o : MOp) (b off : Nat), p = some ⟨b, off, none⟩ ∧ o.t.raw w ∧ (-9223372036854775808 ≤ o.n ∧ o.n ≤ 9223372036854775807) ∧ w.rangeAt b (off + i * 17) o.cells := by
  obtain ⟨p', c', e, hr⟩ := h
  injection e with e1 e2 e3
  subst e1
  obtain ⟨o, ho⟩ : ∃ o, os[i]? = some o := ⟨_, List.getElem?_eq_getElem (by omega)⟩
  obtain ⟨⟨b, off, e, h1⟩, h2, h3⟩ := hr i o ho
  exact ⟨o, b, off, e, h2, h3, h1⟩

set_option maxRecDepth 100000 in
set_option maxHeartbeats 16000000 in
theorem plays_walk {Bx : World → Value → List Ms → List Nat → Prop} (C : MailC Bx) {v : Value} {os : List MOp} (w : World) (hg : GlobM w) (hv : OpRow w v os) :
    Calls Tryz.prog 3 #[v] w fun e w' => e = .returned (.bool true) ∧ Below w.heap.size w w' := by
  have HG := hide hg
  have HC := hide C
  have CW := hide (mawake_any C w hg)
  have HROW := hide hv
  obtain ⟨p0, cap0, rfl, -⟩ := hv
  obtain ⟨N, hN⟩ : ∃ N, N = os.length := ⟨_, rfl⟩
  rw [← hN] at HROW ⊢
  clear C hg hN
  go_enter Tryz.func3, Tryz.ntmps3
  go_wp2_with fail
  refine CW.out.mono ?_
  rintro e w1 ⟨rfl, hb1⟩
  have B1 := hide hb1
  clear hb1 CW
  go_wp2_with fail
  refine (mnew_any HC.out w1 (HG.out.below B1.out)).mono ?_
  rintro e w2 ⟨⟨a, rfl, hx2⟩, hb2⟩
  have B2 := hide (bel2 B1.out hb2)
  have HT3 : Hid (TSm Bx w [] (w2.alloc (.cells #[.slice none 0 0] 29)) a w2.heap.size [] [] none 0) := hide (by
    obtain ⟨hf, F, h1, h2⟩ := hx2
    have hb3 : Below w2.heap.size w2 (w2.alloc (.cells #[.slice none 0 0] 29)) := bel_alloc (Below.refl _ _) _
    refine ⟨fine_nil, fine_nil, ⟨B2.out.size, bel2 B2.out hb3, new_block _ _ _, World.ownsRow_nil _ _ _ _, fun t ht => (by cases ht)⟩, fun q hq => (by cases hq), F, HC.out.stay h1 (fun k hk => hb3.block k (HC.out.lt h1 k hk)), fun k hk => ⟨Nat.le_trans B1.out.size (h2 k hk), fun e => ?_, fun e => (by cases e)⟩⟩
    have := HC.out.lt h1 k hk
    have := List.mem_singleton.1 e
    omega)
  clear hx2 hb2
  go_wp2_with fail
  obtain ⟨rb, hrb⟩ : ∃ rb, rb = w2.heap.size := ⟨_, rfl⟩
  rw [← hrb] at HT3 ⊢
  clear hrb
  go_loopg [6] 120 (fun k v6 wr => ∃ (i : Nat) (ts : List Im) (p : Option Addr) (c : Nat), i + k = 120 ∧ i ≤ N ∧ v6 = .int .i64 (i : Int) ∧ Hid (TSm Bx w [] wr a rb (ts.map Im.m) ts p c))
  case atStart => exact ⟨0, [], none, 0, by omega, Nat.zero_le _, rfl, HT3⟩
  case round =>
    clear HT3 B1 B2
    obtain ⟨i, ts, p, c, hik, hiN, rfl, HT⟩ := hrel
    by_cases hlt : i < N
    · have hd : decide ((i : Int) < (N : Int)) = true := decide_eq_true (by omega)
      by_cases h120 : i < 120
      · have hd2 : decide ((i : Int) < 120) = true := decide_eq_true (by omega)
        obtain ⟨⟨d, n, t⟩, b, off, rfl, hraw, hnb, hce⟩ := HROW.out.at hlt
        obtain ⟨pi, ni, ci, pp, np, cp, p1, n1, c1, p2, n2, c2, p3, n3, c3, p4, n4, c4, p5, n5, c5, ei, ep, e1, e2, e3, e4, e5⟩ := Im.shapeR hraw
        obtain ⟨m, vi, vp, v1, v2, v3, v4, v5, ids, tt, l1, l2, l3, l4, l5⟩ := t
        dsimp only at ei ep e1 e2 e3 e4 e5 hnb
        subst ei ep e1 e2 e3 e4 e5
        have HRAW := hide hraw
        have HNB := hide hnb
        have hce2 : wr.rangeAt b (off + i * 17) [.int .i64 d, .int .i64 n, .int .i64 m.kind, .int .i64 m.fr, .int .i64 m.to, .int .i64 m.ep, .slice pi ni ci, .slice pp np cp, .int .i64 m.pol.ep, .slice p1 n1 c1, .slice p2 n2 c2, .slice p3 n3 c3, .slice p4 n4 c4, .slice p5 n5 c5, .int .i64 m.pol.dp, .int .i64 m.pol.nd, .int .i64 m.pol.bt] := range_keep hce HT.out.r.bw
        have HCE := hide hce2
        clear hce hce2 hraw hnb
        go_upto_region 9 with fail
        go_upto_region 10 with (first
          | (refine wpList_load_mid rfl 37 _ rfl b (off + i * 17) rfl [.int .i64 d, .int .i64 n, .int .i64 m.kind, .int .i64 m.fr, .int .i64 m.to, .int .i64 m.ep, .slice pi ni ci, .slice pp np cp, .int .i64 m.pol.ep, .slice p1 n1 c1, .slice p2 n2 c2, .slice p3 n3 c3, .slice p4 n4 c4, .slice p5 n5 c5, .int .i64 m.pol.dp, .int .i64 m.pol.nd, .int .i64 m.pol.bt] _ HCE.out Tryz.underlying37 rfl (by kernel_rfl) ?_)
          | (refine wpList_store_row rfl 37 _ _ rfl wr.heap.size #[.int .i64 d, .int .i64 n, .int .i64 m.kind, .int .i64 m.fr, .int .i64 m.to, .int .i64 m.ep, .slice pi ni ci, .slice pp np cp, .int .i64 m.pol.ep, .slice p1 n1 c1, .slice p2 n2 c2, .slice p3 n3 c3, .slice p4 n4 c4, .slice p5 n5 c5, .int .i64 m.pol.dp, .int .i64 m.pol.nd, .int .i64 m.pol.bt] rfl rfl 37 _ (new_block _ _ _) (by kernel_rfl) rfl (by simp [Value.oneCell']) ?_; rw [World.setRow_alloc_new]))
        obtain ⟨w4, hw4⟩ : ∃ w4, w4 = wr.alloc (.cells #[.int .i64 d, .int .i64 n, .int .i64 m.kind, .int .i64 m.fr, .int .i64 m.to, .int .i64 m.ep, .slice pi ni ci, .slice pp np cp, .int .i64 m.pol.ep, .slice p1 n1 c1, .slice p2 n2 c2, .slice p3 n3 c3, .slice p4 n4 c4, .slice p5 n5 c5, .int .i64 m.pol.dp, .int .i64 m.pol.nd, .int .i64 m.pol.bt] 37) := ⟨_, rfl⟩
        rw [← hw4]
        have HT4 : Hid (TSm Bx w [wr.heap.size] w4 a rb (ts.map Im.m) ts p c) := hide (by rw [hw4]; exact HT.out.add HC.out _)
        have ho4 : Hid (w4.heap[wr.heap.size]? = some (.cells #[.int .i64 d, .int .i64 n, .int .i64 m.kind, .int .i64 m.fr, .int .i64 m.to, .int .i64 m.ep, .slice pi ni ci, .slice pp np cp, .int .i64 m.pol.ep, .slice p1 n1 c1, .slice p2 n2 c2, .slice p3 n3 c3, .slice p4 n4 c4, .slice p5 n5 c5, .int .i64 m.pol.dp, .int .i64 m.pol.nd, .int .i64 m.pol.bt] 37 (0, 0))) := hide (by rw [hw4]; exact new_block _ _ _)
        have CL := hide (light_im ⟨m, .slice pi ni ci, .slice pp np cp, .slice p1 n1 c1, .slice p2 n2 c2, .slice p3 n3 c3, .slice p4 n4 c4, .slice p5 n5 c5, ids, tt, l1, l2, l3, l4, l5⟩ w4 (HRAW.out.below HT4.out.r.bw))
        obtain ⟨x0, x1, x2, x3, x4, x5, x6, x7, x8, x9, x10, x11, x12, x13, x14, x15, x16⟩ : w4.cell? ⟨wr.heap.size, 0, none⟩ = some (.int .i64 d) ∧ w4.cell? ⟨wr.heap.size, 1, none⟩ = some (.int .i64 n) ∧ w4.cell? ⟨wr.heap.size, 2, none⟩ = some (.int .i64 m.kind) ∧ w4.cell? ⟨wr.heap.size, 3, none⟩ = some (.int .i64 m.fr) ∧ w4.cell? ⟨wr.heap.size, 4, none⟩ = some (.int .i64 m.to) ∧ w4.cell? ⟨wr.heap.size, 5, none⟩ = some (.int .i64 m.ep) ∧ w4.cell? ⟨wr.heap.size, 6, none⟩ = some (.slice pi ni ci) ∧ w4.cell? ⟨wr.heap.size, 7, none⟩ = some (.slice pp np cp) ∧ w4.cell? ⟨wr.heap.size, 8, none⟩ = some (.int .i64 m.pol.ep) ∧ w4.cell? ⟨wr.heap.size, 9, none⟩ = some (.slice p1 n1 c1) ∧ w4.cell? ⟨wr.heap.size, 10, none⟩ = some (.slice p2 n2 c2) ∧ w4.cell? ⟨wr.heap.size, 11, none⟩ = some (.slice p3 n3 c3) ∧ w4.cell? ⟨wr.heap.size, 12, none⟩ = some (.slice p4 n4 c4) ∧ w4.cell? ⟨wr.heap.size, 13, none⟩ = some (.slice p5 n5 c5) ∧ w4.cell? ⟨wr.heap.size, 14, none⟩ = some (.int .i64 m.pol.dp) ∧ w4.cell? ⟨wr.heap.size, 15, none⟩ = some (.int .i64 m.pol.nd) ∧ w4.cell? ⟨wr.heap.size, 16, none⟩ = some (.int .i64 m.pol.bt) := ⟨tag_cell ho4.out 0 _ rfl, tag_cell ho4.out 1 _ rfl, tag_cell ho4.out 2 _ rfl, tag_cell ho4.out 3 _ rfl, tag_cell ho4.out 4 _ rfl, tag_cell ho4.out 5 _ rfl, tag_cell ho4.out 6 _ rfl, tag_cell ho4.out 7 _ rfl, tag_cell ho4.out 8 _ rfl, tag_cell ho4.out 9 _ rfl, tag_cell ho4.out 10 _ rfl, tag_cell ho4.out 11 _ rfl, tag_cell ho4.out 12 _ rfl, tag_cell ho4.out 13 _ rfl, tag_cell ho4.out 14 _ rfl, tag_cell ho4.out 15 _ rfl, tag_cell ho4.out 16 _ rfl⟩
        clear hw4 HT
        go_wp2_with fail
        refine CL.out.mono ?_
        rintro e w5 ⟨⟨bl9, rfl, hlb⟩, hb5⟩
        have HT5 : Hid (TSm Bx w [wr.heap.size] w5 a rb (ts.map Im.m) ts p c) := hide (HT4.out.below HC.out hb5)
        have ho5 : Hid (w5.heap[wr.heap.size]? = some (.cells #[.int .i64 d, .int .i64 n, .int .i64 m.kind, .int .i64 m.fr, .int .i64 m.to, .int .i64 m.ep, .slice pi ni ci, .slice pp np cp, .int .i64 m.pol.ep, .slice p1 n1 c1, .slice p2 n2 c2, .slice p3 n3 c3, .slice p4 n4 c4, .slice p5 n5 c5, .int .i64 m.pol.dp, .int .i64 m.pol.nd, .int .i64 m.pol.bt] 37 (0, 0))) := hide ((hb5.block _ (HT4.out.q _ (by simp)).2.1).trans ho4.out)
        have LB := hide hlb
        clear x0 x1 x2 x3 x4 x5 x6 x7 x8 x9 x10 x11 x12 x13 x14 x15 x16 hb5 hlb CL HT4 ho4
        cases bl9 with
        | false =>
          go_wp2_with fail
          go_ret
          exact ⟨rfl, HT5.out.r.bw⟩
        | true =>
          have HOK : Hid (Im.ok w ⟨m, .slice pi ni ci, .slice pp np cp, .slice p1 n1 c1, .slice p2 n2 c2, .slice p3 n3 c3, .slice p4 n4 c4, .slice p5 n5 c5, ids, tt, l1, l2, l3, l4, l5⟩) := hide (HRAW.out.ok (LB.out rfl).1 (LB.out rfl).2.1 (LB.out rfl).2.2.1)
          have HSM : Hid (MRight m → Sml m) := hide (LB.out rfl).2.2.2
          clear LB HRAW
          obtain ⟨x0, x1, x2, x3, x4, x5, x6, x7, x8, x9, x10, x11, x12, x13, x14, x15, x16⟩ : w5.cell? ⟨wr.heap.size, 0, none⟩ = some (.int .i64 d) ∧ w5.cell? ⟨wr.heap.size, 1, none⟩ = some (.int .i64 n) ∧ w5.cell? ⟨wr.heap.size, 2, none⟩ = some (.int .i64 m.kind) ∧ w5.cell? ⟨wr.heap.size, 3, none⟩ = some (.int .i64 m.fr) ∧ w5.cell? ⟨wr.heap.size, 4, none⟩ = some (.int .i64 m.to) ∧ w5.cell? ⟨wr.heap.size, 5, none⟩ = some (.int .i64 m.ep) ∧ w5.cell? ⟨wr.heap.size, 6, none⟩ = some (.slice pi ni ci) ∧ w5.cell? ⟨wr.heap.size, 7, none⟩ = some (.slice pp np cp) ∧ w5.cell? ⟨wr.heap.size, 8, none⟩ = some (.int .i64 m.pol.ep) ∧ w5.cell? ⟨wr.heap.size, 9, none⟩ = some (.slice p1 n1 c1) ∧ w5.cell? ⟨wr.heap.size, 10, none⟩ = some (.slice p2 n2 c2) ∧ w5.cell? ⟨wr.heap.size, 11, none⟩ = some (.slice p3 n3 c3) ∧ w5.cell? ⟨wr.heap.size, 12, none⟩ = some (.slice p4 n4 c4) ∧ w5.cell? ⟨wr.heap.size, 13, none⟩ = some (.slice p5 n5 c5) ∧ w5.cell? ⟨wr.heap.size, 14, none⟩ = some (.int .i64 m.pol.dp) ∧ w5.cell? ⟨wr.heap.size, 15, none⟩ = some (.int .i64 m.pol.nd) ∧ w5.cell? ⟨wr.heap.size, 16, none⟩ = some (.int .i64 m.pol.bt) := ⟨tag_cell ho5.out 0 _ rfl, tag_cell ho5.out 1 _ rfl, tag_cell ho5.out 2 _ rfl, tag_cell ho5.out 3 _ rfl, tag_cell ho5.out 4 _ rfl, tag_cell ho5.out 5 _ rfl, tag_cell ho5.out 6 _ rfl, tag_cell ho5.out 7 _ rfl, tag_cell ho5.out 8 _ rfl, tag_cell ho5.out 9 _ rfl, tag_cell ho5.out 10 _ rfl, tag_cell ho5.out 11 _ rfl, tag_cell ho5.out 12 _ rfl, tag_cell ho5.out 13 _ rfl, tag_cell ho5.out 14 _ rfl, tag_cell ho5.out 15 _ rfl, tag_cell ho5.out 16 _ rfl⟩
          have SK1 : Hid (∀ wx : World, wx.heap[wr.heap.size]? = w5.heap[wr.heap.size]? → wx.cell? ⟨wr.heap.size, 1, none⟩ = some (.int .i64 n)) := hide (fun wx h => tag_cell (h.trans ho5.out) 1 _ rfl)
          have SK2 : Hid (∀ wx : World, wx.heap[wr.heap.size]? = w5.heap[wr.heap.size]? → wx.cell? ⟨wr.heap.size, 2, none⟩ = some (.int .i64 m.kind) ∧ wx.cell? ⟨wr.heap.size, 3, none⟩ = some (.int .i64 m.fr) ∧ wx.cell? ⟨wr.heap.size, 4, none⟩ = some (.int .i64 m.to) ∧ wx.cell? ⟨wr.heap.size, 5, none⟩ = some (.int .i64 m.ep) ∧ wx.cell? ⟨wr.heap.size, 6, none⟩ = some (.slice pi ni ci) ∧ wx.cell? ⟨wr.heap.size, 7, none⟩ = some (.slice pp np cp) ∧ wx.cell? ⟨wr.heap.size, 8, none⟩ = some (.int .i64 m.pol.ep) ∧ wx.cell? ⟨wr.heap.size, 9, none⟩ = some (.slice p1 n1 c1) ∧ wx.cell? ⟨wr.heap.size, 10, none⟩ = some (.slice p2 n2 c2) ∧ wx.cell? ⟨wr.heap.size, 11, none⟩ = some (.slice p3 n3 c3) ∧ wx.cell? ⟨wr.heap.size, 12, none⟩ = some (.slice p4 n4 c4) ∧ wx.cell? ⟨wr.heap.size, 13, none⟩ = some (.slice p5 n5 c5) ∧ wx.cell? ⟨wr.heap.size, 14, none⟩ = some (.int .i64 m.pol.dp) ∧ wx.cell? ⟨wr.heap.size, 15, none⟩ = some (.int .i64 m.pol.nd) ∧ wx.cell? ⟨wr.heap.size, 16, none⟩ = some (.int .i64 m.pol.bt)) := hide (fun wx h => ⟨tag_cell (h.trans ho5.out) 2 _ rfl, tag_cell (h.trans ho5.out) 3 _ rfl, tag_cell (h.trans ho5.out) 4 _ rfl, tag_cell (h.trans ho5.out) 5 _ rfl, tag_cell (h.trans ho5.out) 6 _ rfl, tag_cell (h.trans ho5.out) 7 _ rfl, tag_cell (h.trans ho5.out) 8 _ rfl, tag_cell (h.trans ho5.out) 9 _ rfl, tag_cell (h.trans ho5.out) 10 _ rfl, tag_cell (h.trans ho5.out) 11 _ rfl, tag_cell (h.trans ho5.out) 12 _ rfl, tag_cell (h.trans ho5.out) 13 _ rfl, tag_cell (h.trans ho5.out) 14 _ rfl, tag_cell (h.trans ho5.out) 15 _ rfl, tag_cell (h.trans ho5.out) 16 _ rfl⟩)
          clear ho5
          go_upto_block 2 with fail
          go_cut [9, 10, 11, 12, 13, 14] from 42 to 92 (fun v9 v10 v11 v12 v13 v14 wx => v9 = .bool true ∧ ∃ ts9 p9 c9, Hid (TSm Bx w [] wx a rb (ts9.map Im.m) ts9 p9 c9))
          case first =>
            by_cases hd0 : d = 0
            · as_aux_lemma =>
              have hd9 : d = 0 := hd0
              subst hd9
              go_upto_region 20 with fail
              have HT0 : Hid (TSm Bx w [wr.heap.size] w5.drew a rb (ts.map Im.m) ts p c) := hide (HT5.out.below HC.out ((Below.refl _ _).drew))
              have HE0 : Hid (w5.drew.heap[wr.heap.size]? = w5.heap[wr.heap.size]?) := hide rfl
              clear x0 x1 x2 x3 x4 x5 x6 x7 x8 x9 x10 x11 x12 x13 x14 x15 x16
              refine wp_region_held_drew (S := (fun wx => wx.cell? ⟨wr.heap.size, 2, none⟩ = some (.int .i64 m.kind) ∧ wx.cell? ⟨wr.heap.size, 3, none⟩ = some (.int .i64 m.fr) ∧ wx.cell? ⟨wr.heap.size, 4, none⟩ = some (.int .i64 m.to) ∧ wx.cell? ⟨wr.heap.size, 5, none⟩ = some (.int .i64 m.ep) ∧ wx.cell? ⟨wr.heap.size, 6, none⟩ = some (.slice pi ni ci) ∧ wx.cell? ⟨wr.heap.size, 7, none⟩ = some (.slice pp np cp) ∧ wx.cell? ⟨wr.heap.size, 8, none⟩ = some (.int .i64 m.pol.ep) ∧ wx.cell? ⟨wr.heap.size, 9, none⟩ = some (.slice p1 n1 c1) ∧ wx.cell? ⟨wr.heap.size, 10, none⟩ = some (.slice p2 n2 c2) ∧ wx.cell? ⟨wr.heap.size, 11, none⟩ = some (.slice p3 n3 c3) ∧ wx.cell? ⟨wr.heap.size, 12, none⟩ = some (.slice p4 n4 c4) ∧ wx.cell? ⟨wr.heap.size, 13, none⟩ = some (.slice p5 n5 c5) ∧ wx.cell? ⟨wr.heap.size, 14, none⟩ = some (.int .i64 m.pol.dp) ∧ wx.cell? ⟨wr.heap.size, 15, none⟩ = some (.int .i64 m.pol.nd) ∧ wx.cell? ⟨wr.heap.size, 16, none⟩ = some (.int .i64 m.pol.bt))) (by kernel_rfl) (SK2.out _ rfl) (fun hHeld => ?_)
              refine wpAnyH_at (i := 0) (v := ?vuput1x0) (a1 := ?xuput1x0) rfl (by kernel_rfl) (by kernel_rfl) (by kernel_rfl) (fun _ _ _ h => h) (Or.inl ⟨by rfl, ?yuput1x0⟩) (by assumption) ?huput1x0 ?zuput1x0
              case yuput1x0 => (intro w hSw; (try dsimp only at hSw); go_simp; try (with_reducible rfl))
              case huput1x0 => (go_simp; exact rfl)
              case zuput1x0 =>
              refine wpAnyH_at (i := 1) (v := ?vuput1x1) (a1 := ?xuput1x1) rfl (by kernel_rfl) (by kernel_rfl) (by kernel_rfl) (fun _ _ _ h => h) (Or.inl ⟨by rfl, ?yuput1x1⟩) (by assumption) ?huput1x1 ?zuput1x1
              case yuput1x1 => (intro w hSw; (try dsimp only at hSw); go_simp; try (with_reducible rfl))
              case huput1x1 => (go_simp; exact rfl)
              case zuput1x1 =>
              refine wpAnyH_at (i := 2) (v := ?vuput1x2) (a1 := ?xuput1x2) rfl (by kernel_rfl) (by kernel_rfl) (by kernel_rfl) (fun _ _ _ h => h) (Or.inl ⟨by rfl, ?yuput1x2⟩) (by assumption) ?huput1x2 ?zuput1x2
              case yuput1x2 => (intro w hSw; (try dsimp only at hSw); go_simp; try (with_reducible rfl))
              case huput1x2 => (go_simp; exact rfl)
              case zuput1x2 =>
              refine wpAnyH_at (i := 4) (v := ?vuput1x4) (a1 := ?xuput1x4) rfl (by kernel_rfl) (by kernel_rfl) (by kernel_rfl) (fun _ _ _ h => h) (Or.inl ⟨by rfl, ?yuput1x4⟩) (by assumption) ?huput1x4 ?zuput1x4
              case yuput1x4 => (intro w hSw; (try dsimp only at hSw); go_simp; try (with_reducible rfl))
              case huput1x4 => (go_simp; exact rfl)
              case zuput1x4 =>
              refine wpAnyH_at (i := 5) (v := ?vuput1x5) (a1 := ?xuput1x5) rfl (by kernel_rfl) (by kernel_rfl) (by kernel_rfl) (fun _ _ _ h => h) (Or.inl ⟨by rfl, ?yuput1x5⟩) (by assumption) ?huput1x5 ?zuput1x5
              case yuput1x5 => (intro w hSw; (try dsimp only at hSw); go_simp; try (with_reducible rfl))
              case huput1x5 => (go_simp; exact rfl)
              case zuput1x5 =>
              refine wpAnyH_at (i := 6) (v := ?vuput1x6) (a1 := ?xuput1x6) rfl (by kernel_rfl) (by kernel_rfl) (by kernel_rfl) (fun _ _ _ h => h) (Or.inl ⟨by rfl, ?yuput1x6⟩) (by assumption) ?huput1x6 ?zuput1x6
              case yuput1x6 => (intro w hSw; (try dsimp only at hSw); go_simp; try (with_reducible rfl))
              case huput1x6 => (go_simp; exact rfl)
              case zuput1x6 =>
              refine wpAnyH_ready (rs := [3]) (by kernel_rfl) (by simp) ?_
              refine AllReadyH.cons rfl (fun K hK => ?_) AllReadyH.nil
              go_simp
              refine (put_p HC.out HG.out HT0.out ⟨m, .slice pi ni ci, .slice pp np cp, .slice p1 n1 c1, .slice p2 n2 c2, .slice p3 n3 c3, .slice p4 n4 c4, .slice p5 n5 c5, ids, tt, l1, l2, l3, l4, l5⟩ HOK.out HSM.out).mono ?_
              rintro e wzq3 ⟨⟨cdq3, msq3, rfl, hp, hT⟩, hR⟩
              have HT0q3 := hide hT
              have HPq3 := hide hp
              have HE0q3 : Hid (wzq3.heap[wr.heap.size]? = w5.heap[wr.heap.size]?) := hide ((hR.1 _ (by simp)).trans HE0.out)
              clear hT hp hR
              try go_wp2_with fail
              refine hK.out _ _ (SK2.out _ HE0q3.out) (fun hHeld2 => ?_)
              clear hK K hHeld
              have hHeld := hHeld2
              clear hHeld2
              refine wpAnyH_ready (rs := [7]) (by kernel_rfl) (by simp) ?_
              refine AllReadyH.cons rfl (fun K hK => ?_) AllReadyH.nil
              go_simp
              refine (put_r HC.out HT0q3.out ⟨m, .slice pi ni ci, .slice pp np cp, .slice p1 n1 c1, .slice p2 n2 c2, .slice p3 n3 c3, .slice p4 n4 c4, .slice p5 n5 c5, ids, tt, l1, l2, l3, l4, l5⟩ HOK.out HSM.out).mono ?_
              rintro e wzq3q7 ⟨⟨cdq3q7, tsq3q7, pq3q7, cq3q7, rfl, hp, hT⟩, hR⟩
              have HT0q3q7 := hide hT
              have HPq3q7 := hide hp
              have HE0q3q7 : Hid (wzq3q7.heap[wr.heap.size]? = w5.heap[wr.heap.size]?) := hide ((hR.1 _ (by simp)).trans HE0q3.out)
              obtain ⟨ec, em⟩ := PutR.one HPq3.out HPq3q7.out
              subst ec
              subst em
              clear hT hp hR
              try go_wp2_with fail
              refine hK.out _ _ (SK2.out _ HE0q3q7.out) (fun hHeld2 => ?_)
              clear hK K hHeld
              have hHeld := hHeld2
              clear hHeld2
              refine wpAnyH_at (i := 8) (v := ?vuput1p3p7x8) (a1 := ?xuput1p3p7x8) rfl (by kernel_rfl) (by kernel_rfl) (by kernel_rfl) (fun _ _ _ h => h) (Or.inl ⟨by rfl, ?yuput1p3p7x8⟩) (by assumption) ?huput1p3p7x8 ?zuput1p3p7x8
              case yuput1p3p7x8 => (intro w hSw; (try dsimp only at hSw); go_simp; try (with_reducible rfl))
              case huput1p3p7x8 => (go_simp; exact rfl)
              case zuput1p3p7x8 =>
              refine wpAnyH_at (i := 9) (v := ?vuput1p3p7x9) (a1 := ?xuput1p3p7x9) rfl (by kernel_rfl) (by kernel_rfl) (by kernel_rfl) (fun _ _ _ h => h) (Or.inl ⟨by rfl, ?yuput1p3p7x9⟩) (by assumption) ?huput1p3p7x9 ?zuput1p3p7x9
              case yuput1p3p7x9 => (intro w hSw; (try dsimp only at hSw); go_simp; try (with_reducible rfl))
              case huput1p3p7x9 => (go_simp; exact rfl)
              case zuput1p3p7x9 =>
              refine wpAnyH_done (by kernel_rfl) ?_ _
              go_wp2_with fail
              go_meet
              exact ⟨rfl, _, _, _, hide HT0q3q7.out.drop⟩
            have hz0 : decide (d = 0) = false := decide_eq_false hd0
            have hy0 : (d == 0) = false := by simpa using hd0
            clear hd0
            by_cases hd0 : d = 1
            · as_aux_lemma =>
              have hd9 : d = 1 := hd0
              subst hd9
              go_upto_region 20 with fail
              have HT0 : Hid (TSm Bx w [wr.heap.size] w5.drew a rb (ts.map Im.m) ts p c) := hide (HT5.out.below HC.out ((Below.refl _ _).drew))
              have HE0 : Hid (w5.drew.heap[wr.heap.size]? = w5.heap[wr.heap.size]?) := hide rfl
              clear x0 x1 x2 x3 x4 x5 x6 x7 x8 x9 x10 x11 x12 x13 x14 x15 x16
              refine wp_region_held_drew (S := (fun wx => wx.cell? ⟨wr.heap.size, 2, none⟩ = some (.int .i64 m.kind) ∧ wx.cell? ⟨wr.heap.size, 3, none⟩ = some (.int .i64 m.fr) ∧ wx.cell? ⟨wr.heap.size, 4, none⟩ = some (.int .i64 m.to) ∧ wx.cell? ⟨wr.heap.size, 5, none⟩ = some (.int .i64 m.ep) ∧ wx.cell? ⟨wr.heap.size, 6, none⟩ = some (.slice pi ni ci) ∧ wx.cell? ⟨wr.heap.size, 7, none⟩ = some (.slice pp np cp) ∧ wx.cell? ⟨wr.heap.size, 8, none⟩ = some (.int .i64 m.pol.ep) ∧ wx.cell? ⟨wr.heap.size, 9, none⟩ = some (.slice p1 n1 c1) ∧ wx.cell? ⟨wr.heap.size, 10, none⟩ = some (.slice p2 n2 c2) ∧ wx.cell? ⟨wr.heap.size, 11, none⟩ = some (.slice p3 n3 c3) ∧ wx.cell? ⟨wr.heap.size, 12, none⟩ = some (.slice p4 n4 c4) ∧ wx.cell? ⟨wr.heap.size, 13, none⟩ = some (.slice p5 n5 c5) ∧ wx.cell? ⟨wr.heap.size, 14, none⟩ = some (.int .i64 m.pol.dp) ∧ wx.cell? ⟨wr.heap.size, 15, none⟩ = some (.int .i64 m.pol.nd) ∧ wx.cell? ⟨wr.heap.size, 16, none⟩ = some (.int .i64 m.pol.bt))) (by kernel_rfl) (SK2.out _ rfl) (fun hHeld => ?_)
              refine wpAnyH_at (i := 0) (v := ?vuput2x0) (a1 := ?xuput2x0) rfl (by kernel_rfl) (by kernel_rfl) (by kernel_rfl) (fun _ _ _ h => h) (Or.inl ⟨by rfl, ?yuput2x0⟩) (by assumption) ?huput2x0 ?zuput2x0
              case yuput2x0 => (intro w hSw; (try dsimp only at hSw); go_simp; try (with_reducible rfl))
              case huput2x0 => (go_simp; exact rfl)
              case zuput2x0 =>
              refine wpAnyH_at (i := 1) (v := ?vuput2x1) (a1 := ?xuput2x1) rfl (by kernel_rfl) (by kernel_rfl) (by kernel_rfl) (fun _ _ _ h => h) (Or.inl ⟨by rfl, ?yuput2x1⟩) (by assumption) ?huput2x1 ?zuput2x1
              case yuput2x1 => (intro w hSw; (try dsimp only at hSw); go_simp; try (with_reducible rfl))
              case huput2x1 => (go_simp; exact rfl)
              case zuput2x1 =>
              refine wpAnyH_at (i := 2) (v := ?vuput2x2) (a1 := ?xuput2x2) rfl (by kernel_rfl) (by kernel_rfl) (by kernel_rfl) (fun _ _ _ h => h) (Or.inl ⟨by rfl, ?yuput2x2⟩) (by assumption) ?huput2x2 ?zuput2x2
              case yuput2x2 => (intro w hSw; (try dsimp only at hSw); go_simp; try (with_reducible rfl))
              case huput2x2 => (go_simp; exact rfl)
              case zuput2x2 =>
              refine wpAnyH_at (i := 4) (v := ?vuput2x4) (a1 := ?xuput2x4) rfl (by kernel_rfl) (by kernel_rfl) (by kernel_rfl) (fun _ _ _ h => h) (Or.inl ⟨by rfl, ?yuput2x4⟩) (by assumption) ?huput2x4 ?zuput2x4
              case yuput2x4 => (intro w hSw; (try dsimp only at hSw); go_simp; try (with_reducible rfl))
              case huput2x4 => (go_simp; exact rfl)
              case zuput2x4 =>
              refine wpAnyH_at (i := 5) (v := ?vuput2x5) (a1 := ?xuput2x5) rfl (by kernel_rfl) (by kernel_rfl) (by kernel_rfl) (fun _ _ _ h => h) (Or.inl ⟨by rfl, ?yuput2x5⟩) (by assumption) ?huput2x5 ?zuput2x5
              case yuput2x5 => (intro w hSw; (try dsimp only at hSw); go_simp; try (with_reducible rfl))
              case huput2x5 => (go_simp; exact rfl)
              case zuput2x5 =>
              refine wpAnyH_at (i := 6) (v := ?vuput2x6) (a1 := ?xuput2x6) rfl (by kernel_rfl) (by kernel_rfl) (by kernel_rfl) (fun _ _ _ h => h) (Or.inl ⟨by rfl, ?yuput2x6⟩) (by assumption) ?huput2x6 ?zuput2x6
              case yuput2x6 => (intro w hSw; (try dsimp only at hSw); go_simp; try (with_reducible rfl))
              case huput2x6 => (go_simp; exact rfl)
              case zuput2x6 =>
              refine wpAnyH_ready (rs := [3]) (by kernel_rfl) (by simp) ?_
              refine AllReadyH.cons rfl (fun K hK => ?_) AllReadyH.nil
              go_simp
              refine (put_p HC.out HG.out HT0.out ⟨m, .slice pi ni ci, .slice pp np cp, .slice p1 n1 c1, .slice p2 n2 c2, .slice p3 n3 c3, .slice p4 n4 c4, .slice p5 n5 c5, ids, tt, l1, l2, l3, l4, l5⟩ HOK.out HSM.out).mono ?_
              rintro e wzq3 ⟨⟨cdq3, msq3, rfl, hp, hT⟩, hR⟩
              have HT0q3 := hide hT
              have HPq3 := hide hp
              have HE0q3 : Hid (wzq3.heap[wr.heap.size]? = w5.heap[wr.heap.size]?) := hide ((hR.1 _ (by simp)).trans HE0.out)
              clear hT hp hR
              try go_wp2_with fail
              refine hK.out _ _ (SK2.out _ HE0q3.out) (fun hHeld2 => ?_)
              clear hK K hHeld
              have hHeld := hHeld2
              clear hHeld2
              refine wpAnyH_ready (rs := [7]) (by kernel_rfl) (by simp) ?_
              refine AllReadyH.cons rfl (fun K hK => ?_) AllReadyH.nil
              go_simp
              refine (put_r HC.out HT0q3.out ⟨m, .slice pi ni ci, .slice pp np cp, .slice p1 n1 c1, .slice p2 n2 c2, .slice p3 n3 c3, .slice p4 n4 c4, .slice p5 n5 c5, ids, tt, l1, l2, l3, l4, l5⟩ HOK.out HSM.out).mono ?_
              rintro e wzq3q7 ⟨⟨cdq3q7, tsq3q7, pq3q7, cq3q7, rfl, hp, hT⟩, hR⟩
              have HT0q3q7 := hide hT
              have HPq3q7 := hide hp
              have HE0q3q7 : Hid (wzq3q7.heap[wr.heap.size]? = w5.heap[wr.heap.size]?) := hide ((hR.1 _ (by simp)).trans HE0q3.out)
              obtain ⟨ec, em⟩ := PutR.one HPq3.out HPq3q7.out
              subst ec
              subst em
              clear hT hp hR
              try go_wp2_with fail
              refine hK.out _ _ (SK2.out _ HE0q3q7.out) (fun hHeld2 => ?_)
              clear hK K hHeld
              have hHeld := hHeld2
              clear hHeld2
              refine wpAnyH_at (i := 8) (v := ?vuput2p3p7x8) (a1 := ?xuput2p3p7x8) rfl (by kernel_rfl) (by kernel_rfl) (by kernel_rfl) (fun _ _ _ h => h) (Or.inl ⟨by rfl, ?yuput2p3p7x8⟩) (by assumption) ?huput2p3p7x8 ?zuput2p3p7x8
              case yuput2p3p7x8 => (intro w hSw; (try dsimp only at hSw); go_simp; try (with_reducible rfl))
              case huput2p3p7x8 => (go_simp; exact rfl)
              case zuput2p3p7x8 =>
              refine wpAnyH_at (i := 9) (v := ?vuput2p3p7x9) (a1 := ?xuput2p3p7x9) rfl (by kernel_rfl) (by kernel_rfl) (by kernel_rfl) (fun _ _ _ h => h) (Or.inl ⟨by rfl, ?yuput2p3p7x9⟩) (by assumption) ?huput2p3p7x9 ?zuput2p3p7x9
              case yuput2p3p7x9 => (intro w hSw; (try dsimp only at hSw); go_simp; try (with_reducible rfl))
              case huput2p3p7x9 => (go_simp; exact rfl)
              case zuput2p3p7x9 =>
              refine wpAnyH_done (by kernel_rfl) ?_ _
              go_wp2_with fail
              go_meet
              exact ⟨rfl, _, _, _, hide HT0q3q7.out.drop⟩
            have hz1 : decide (d = 1) = false := decide_eq_false hd0
            have hy1 : (d == 1) = false := by simpa using hd0
            clear hd0
            by_cases hd0 : d = 2
            · as_aux_lemma =>
              have hd9 : d = 2 := hd0
              subst hd9
              go_upto_region 20 with fail
              have HT0 : Hid (TSm Bx w [wr.heap.size] w5.drew a rb (ts.map Im.m) ts p c) := hide (HT5.out.below HC.out ((Below.refl _ _).drew))
              have HE0 : Hid (w5.drew.heap[wr.heap.size]? = w5.heap[wr.heap.size]?) := hide rfl
              clear x0 x1 x2 x3 x4 x5 x6 x7 x8 x9 x10 x11 x12 x13 x14 x15 x16
              refine wp_region_held_drew (S := (fun wx => wx.cell? ⟨wr.heap.size, 2, none⟩ = some (.int .i64 m.kind) ∧ wx.cell? ⟨wr.heap.size, 3, none⟩ = some (.int .i64 m.fr) ∧ wx.cell? ⟨wr.heap.size, 4, none⟩ = some (.int .i64 m.to) ∧ wx.cell? ⟨wr.heap.size, 5, none⟩ = some (.int .i64 m.ep) ∧ wx.cell? ⟨wr.heap.size, 6, none⟩ = some (.slice pi ni ci) ∧ wx.cell? ⟨wr.heap.size, 7, none⟩ = some (.slice pp np cp) ∧ wx.cell? ⟨wr.heap.size, 8, none⟩ = some (.int .i64 m.pol.ep) ∧ wx.cell? ⟨wr.heap.size, 9, none⟩ = some (.slice p1 n1 c1) ∧ wx.cell? ⟨wr.heap.size, 10, none⟩ = some (.slice p2 n2 c2) ∧ wx.cell? ⟨wr.heap.size, 11, none⟩ = some (.slice p3 n3 c3) ∧ wx.cell? ⟨wr.heap.size, 12, none⟩ = some (.slice p4 n4 c4) ∧ wx.cell? ⟨wr.heap.size, 13, none⟩ = some (.slice p5 n5 c5) ∧ wx.cell? ⟨wr.heap.size, 14, none⟩ = some (.int .i64 m.pol.dp) ∧ wx.cell? ⟨wr.heap.size, 15, none⟩ = some (.int .i64 m.pol.nd) ∧ wx.cell? ⟨wr.heap.size, 16, none⟩ = some (.int .i64 m.pol.bt))) (by kernel_rfl) (SK2.out _ rfl) (fun hHeld => ?_)
              refine wpAnyH_at (i := 0) (v := ?vuput3x0) (a1 := ?xuput3x0) rfl (by kernel_rfl) (by kernel_rfl) (by kernel_rfl) (fun _ _ _ h => h) (Or.inl ⟨by rfl, ?yuput3x0⟩) (by assumption) ?huput3x0 ?zuput3x0
              case yuput3x0 => (intro w hSw; (try dsimp only at hSw); go_simp; try (with_reducible rfl))
              case huput3x0 => (go_simp; exact rfl)
              case zuput3x0 =>
              refine wpAnyH_at (i := 1) (v := ?vuput3x1) (a1 := ?xuput3x1) rfl (by kernel_rfl) (by kernel_rfl) (by kernel_rfl) (fun _ _ _ h => h) (Or.inl ⟨by rfl, ?yuput3x1⟩) (by assumption) ?huput3x1 ?zuput3x1
              case yuput3x1 => (intro w hSw; (try dsimp only at hSw); go_simp; try (with_reducible rfl))
              case huput3x1 => (go_simp; exact rfl)
              case zuput3x1 =>
              refine wpAnyH_at (i := 2) (v := ?vuput3x2) (a1 := ?xuput3x2) rfl (by kernel_rfl) (by kernel_rfl) (by kernel_rfl) (fun _ _ _ h => h) (Or.inl ⟨by rfl, ?yuput3x2⟩) (by assumption) ?huput3x2 ?zuput3x2
              case yuput3x2 => (intro w hSw; (try dsimp only at hSw); go_simp; try (with_reducible rfl))
              case huput3x2 => (go_simp; exact rfl)
              case zuput3x2 =>
              refine wpAnyH_at (i := 4) (v := ?vuput3x4) (a1 := ?xuput3x4) rfl (by kernel_rfl) (by kernel_rfl) (by kernel_rfl) (fun _ _ _ h => h) (Or.inl ⟨by rfl, ?yuput3x4⟩) (by assumption) ?huput3x4 ?zuput3x4
              case yuput3x4 => (intro w hSw; (try dsimp only at hSw); go_simp; try (with_reducible rfl))
              case huput3x4 => (go_simp; exact rfl)
              case zuput3x4 =>
              refine wpAnyH_at (i := 5) (v := ?vuput3x5) (a1 := ?xuput3x5) rfl (by kernel_rfl) (by kernel_rfl) (by kernel_rfl) (fun _ _ _ h => h) (Or.inl ⟨by rfl, ?yuput3x5⟩) (by assumption) ?huput3x5 ?zuput3x5
              case yuput3x5 => (intro w hSw; (try dsimp only at hSw); go_simp; try (with_reducible rfl))
              case huput3x5 => (go_simp; exact rfl)
              case zuput3x5 =>
              refine wpAnyH_at (i := 6) (v := ?vuput3x6) (a1 := ?xuput3x6) rfl (by kernel_rfl) (by kernel_rfl) (by kernel_rfl) (fun _ _ _ h => h) (Or.inl ⟨by rfl, ?yuput3x6⟩) (by assumption) ?huput3x6 ?zuput3x6
              case yuput3x6 => (intro w hSw; (try dsimp only at hSw); go_simp; try (with_reducible rfl))
              case huput3x6 => (go_simp; exact rfl)
              case zuput3x6 =>
              refine wpAnyH_ready (rs := [3]) (by kernel_rfl) (by simp) ?_
              refine AllReadyH.cons rfl (fun K hK => ?_) AllReadyH.nil
              go_simp
              refine (put_p HC.out HG.out HT0.out ⟨m, .slice pi ni ci, .slice pp np cp, .slice p1 n1 c1, .slice p2 n2 c2, .slice p3 n3 c3, .slice p4 n4 c4, .slice p5 n5 c5, ids, tt, l1, l2, l3, l4, l5⟩ HOK.out HSM.out).mono ?_
              rintro e wzq3 ⟨⟨cdq3, msq3, rfl, hp, hT⟩, hR⟩
              have HT0q3 := hide hT
              have HPq3 := hide hp
              have HE0q3 : Hid (wzq3.heap[wr.heap.size]? = w5.heap[wr.heap.size]?) := hide ((hR.1 _ (by simp)).trans HE0.out)
              clear hT hp hR
              try go_wp2_with fail
              refine hK.out _ _ (SK2.out _ HE0q3.out) (fun hHeld2 => ?_)
              clear hK K hHeld
              have hHeld := hHeld2
              clear hHeld2
              refine wpAnyH_ready (rs := [7]) (by kernel_rfl) (by simp) ?_
              refine AllReadyH.cons rfl (fun K hK => ?_) AllReadyH.nil
              go_simp
              refine (put_r HC.out HT0q3.out ⟨m, .slice pi ni ci, .slice pp np cp, .slice p1 n1 c1, .slice p2 n2 c2, .slice p3 n3 c3, .slice p4 n4 c4, .slice p5 n5 c5, ids, tt, l1, l2, l3, l4, l5⟩ HOK.out HSM.out).mono ?_
              rintro e wzq3q7 ⟨⟨cdq3q7, tsq3q7, pq3q7, cq3q7, rfl, hp, hT⟩, hR⟩
              have HT0q3q7 := hide hT
              have HPq3q7 := hide hp
              have HE0q3q7 : Hid (wzq3q7.heap[wr.heap.size]? = w5.heap[wr.heap.size]?) := hide ((hR.1 _ (by simp)).trans HE0q3.out)
              obtain ⟨ec, em⟩ := PutR.one HPq3.out HPq3q7.out
              subst ec
              subst em
              clear hT hp hR
              try go_wp2_with fail
              refine hK.out _ _ (SK2.out _ HE0q3q7.out) (fun hHeld2 => ?_)
              clear hK K hHeld
              have hHeld := hHeld2
              clear hHeld2
              refine wpAnyH_at (i := 8) (v := ?vuput3p3p7x8) (a1 := ?xuput3p3p7x8) rfl (by kernel_rfl) (by kernel_rfl) (by kernel_rfl) (fun _ _ _ h => h) (Or.inl ⟨by rfl, ?yuput3p3p7x8⟩) (by assumption) ?huput3p3p7x8 ?zuput3p3p7x8
              case yuput3p3p7x8 => (intro w hSw; (try dsimp only at hSw); go_simp; try (with_reducible rfl))
              case huput3p3p7x8 => (go_simp; exact rfl)
              case zuput3p3p7x8 =>
              refine wpAnyH_at (i := 9) (v := ?vuput3p3p7x9) (a1 := ?xuput3p3p7x9) rfl (by kernel_rfl) (by kernel_rfl) (by kernel_rfl) (fun _ _ _ h => h) (Or.inl ⟨by rfl, ?yuput3p3p7x9⟩) (by assumption) ?huput3p3p7x9 ?zuput3p3p7x9
              case yuput3p3p7x9 => (intro w hSw; (try dsimp only at hSw); go_simp; try (with_reducible rfl))
              case huput3p3p7x9 => (go_simp; exact rfl)
              case zuput3p3p7x9 =>
              refine wpAnyH_done (by kernel_rfl) ?_ _
              go_wp2_with fail
              go_meet
              exact ⟨rfl, _, _, _, hide HT0q3q7.out.drop⟩
            have hz2 : decide (d = 2) = false := decide_eq_false hd0
            have hy2 : (d == 2) = false := by simpa using hd0
            clear hd0
            by_cases hd0 : d = 3
            · as_aux_lemma =>
              have hd9 : d = 3 := hd0
              subst hd9
              go_upto_region 20 with fail
              have HT0 : Hid (TSm Bx w [wr.heap.size] w5.drew a rb (ts.map Im.m) ts p c) := hide (HT5.out.below HC.out ((Below.refl _ _).drew))
              have HE0 : Hid (w5.drew.heap[wr.heap.size]? = w5.heap[wr.heap.size]?) := hide rfl
              clear x0 x1 x2 x3 x4 x5 x6 x7 x8 x9 x10 x11 x12 x13 x14 x15 x16
              refine wp_region_held_drew (S := (fun wx => wx.cell? ⟨wr.heap.size, 2, none⟩ = some (.int .i64 m.kind) ∧ wx.cell? ⟨wr.heap.size, 3, none⟩ = some (.int .i64 m.fr) ∧ wx.cell? ⟨wr.heap.size, 4, none⟩ = some (.int .i64 m.to) ∧ wx.cell? ⟨wr.heap.size, 5, none⟩ = some (.int .i64 m.ep) ∧ wx.cell? ⟨wr.heap.size, 6, none⟩ = some (.slice pi ni ci) ∧ wx.cell? ⟨wr.heap.size, 7, none⟩ = some (.slice pp np cp) ∧ wx.cell? ⟨wr.heap.size, 8, none⟩ = some (.int .i64 m.pol.ep) ∧ wx.cell? ⟨wr.heap.size, 9, none⟩ = some (.slice p1 n1 c1) ∧ wx.cell? ⟨wr.heap.size, 10, none⟩ = some (.slice p2 n2 c2) ∧ wx.cell? ⟨wr.heap.size, 11, none⟩ = some (.slice p3 n3 c3) ∧ wx.cell? ⟨wr.heap.size, 12, none⟩ = some (.slice p4 n4 c4) ∧ wx.cell? ⟨wr.heap.size, 13, none⟩ = some (.slice p5 n5 c5) ∧ wx.cell? ⟨wr.heap.size, 14, none⟩ = some (.int .i64 m.pol.dp) ∧ wx.cell? ⟨wr.heap.size, 15, none⟩ = some (.int .i64 m.pol.nd) ∧ wx.cell? ⟨wr.heap.size, 16, none⟩ = some (.int .i64 m.pol.bt))) (by kernel_rfl) (SK2.out _ rfl) (fun hHeld => ?_)
              refine wpAnyH_at (i := 0) (v := ?vuput4x0) (a1 := ?xuput4x0) rfl (by kernel_rfl) (by kernel_rfl) (by kernel_rfl) (fun _ _ _ h => h) (Or.inl ⟨by rfl, ?yuput4x0⟩) (by assumption) ?huput4x0 ?zuput4x0
              case yuput4x0 => (intro w hSw; (try dsimp only at hSw); go_simp; try (with_reducible rfl))
              case huput4x0 => (go_simp; exact rfl)
              case zuput4x0 =>
              refine wpAnyH_at (i := 1) (v := ?vuput4x1) (a1 := ?xuput4x1) rfl (by kernel_rfl) (by kernel_rfl) (by kernel_rfl) (fun _ _ _ h => h) (Or.inl ⟨by rfl, ?yuput4x1⟩) (by assumption) ?huput4x1 ?zuput4x1
              case yuput4x1 => (intro w hSw; (try dsimp only at hSw); go_simp; try (with_reducible rfl))
              case huput4x1 => (go_simp; exact rfl)
              case zuput4x1 =>
              refine wpAnyH_at (i := 2) (v := ?vuput4x2) (a1 := ?xuput4x2) rfl (by kernel_rfl) (by kernel_rfl) (by kernel_rfl) (fun _ _ _ h => h) (Or.inl ⟨by rfl, ?yuput4x2⟩) (by assumption) ?huput4x2 ?zuput4x2
              case yuput4x2 => (intro w hSw; (try dsimp only at hSw); go_simp; try (with_reducible rfl))
              case huput4x2 => (go_simp; exact rfl)
              case zuput4x2 =>
              refine wpAnyH_at (i := 4) (v := ?vuput4x4) (a1 := ?xuput4x4) rfl (by kernel_rfl) (by kernel_rfl) (by kernel_rfl) (fun _ _ _ h => h) (Or.inl ⟨by rfl, ?yuput4x4⟩) (by assumption) ?huput4x4 ?zuput4x4
              case yuput4x4 => (intro w hSw; (try dsimp only at hSw); go_simp; try (with_reducible rfl))
              case huput4x4 => (go_simp; exact rfl)
              case zuput4x4 =>
              refine wpAnyH_at (i := 5) (v := ?vuput4x5) (a1 := ?xuput4x5) rfl (by kernel_rfl) (by kernel_rfl) (by kernel_rfl) (fun _ _ _ h => h) (Or.inl ⟨by rfl, ?yuput4x5⟩) (by assumption) ?huput4x5 ?zuput4x5
              case yuput4x5 => (intro w hSw; (try dsimp only at hSw); go_simp; try (with_reducible rfl))
              case huput4x5 => (go_simp; exact rfl)
              case zuput4x5 =>
              refine wpAnyH_at (i := 6) (v := ?vuput4x6) (a1 := ?xuput4x6) rfl (by kernel_rfl) (by kernel_rfl) (by kernel_rfl) (fun _ _ _ h => h) (Or.inl ⟨by rfl, ?yuput4x6⟩) (by assumption) ?huput4x6 ?zuput4x6
              case yuput4x6 => (intro w hSw; (try dsimp only at hSw); go_simp; try (with_reducible rfl))
              case huput4x6 => (go_simp; exact rfl)
              case zuput4x6 =>
              refine wpAnyH_ready (rs := [3]) (by kernel_rfl) (by simp) ?_
              refine AllReadyH.cons rfl (fun K hK => ?_) AllReadyH.nil
              go_simp
              refine (put_p HC.out HG.out HT0.out ⟨m, .slice pi ni ci, .slice pp np cp, .slice p1 n1 c1, .slice p2 n2 c2, .slice p3 n3 c3, .slice p4 n4 c4, .slice p5 n5 c5, ids, tt, l1, l2, l3, l4, l5⟩ HOK.out HSM.out).mono ?_
              rintro e wzq3 ⟨⟨cdq3, msq3, rfl, hp, hT⟩, hR⟩
              have HT0q3 := hide hT
              have HPq3 := hide hp
              have HE0q3 : Hid (wzq3.heap[wr.heap.size]? = w5.heap[wr.heap.size]?) := hide ((hR.1 _ (by simp)).trans HE0.out)
              clear hT hp hR
              try go_wp2_with fail
              refine hK.out _ _ (SK2.out _ HE0q3.out) (fun hHeld2 => ?_)
              clear hK K hHeld
              have hHeld := hHeld2
              clear hHeld2
              refine wpAnyH_ready (rs := [7]) (by kernel_rfl) (by simp) ?_
              refine AllReadyH.cons rfl (fun K hK => ?_) AllReadyH.nil
              go_simp
              refine (put_r HC.out HT0q3.out ⟨m, .slice pi ni ci, .slice pp np cp, .slice p1 n1 c1, .slice p2 n2 c2, .slice p3 n3 c3, .slice p4 n4 c4, .slice p5 n5 c5, ids, tt, l1, l2, l3, l4, l5⟩ HOK.out HSM.out).mono ?_
              rintro e wzq3q7 ⟨⟨cdq3q7, tsq3q7, pq3q7, cq3q7, rfl, hp, hT⟩, hR⟩
              have HT0q3q7 := hide hT
              have HPq3q7 := hide hp
              have HE0q3q7 : Hid (wzq3q7.heap[wr.heap.size]? = w5.heap[wr.heap.size]?) := hide ((hR.1 _ (by simp)).trans HE0q3.out)
              obtain ⟨ec, em⟩ := PutR.one HPq3.out HPq3q7.out
              subst ec
              subst em
              clear hT hp hR
              try go_wp2_with fail
              refine hK.out _ _ (SK2.out _ HE0q3q7.out) (fun hHeld2 => ?_)
              clear hK K hHeld
              have hHeld := hHeld2
              clear hHeld2
              refine wpAnyH_at (i := 8) (v := ?vuput4p3p7x8) (a1 := ?xuput4p3p7x8) rfl (by kernel_rfl) (by kernel_rfl) (by kernel_rfl) (fun _ _ _ h => h) (Or.inl ⟨by rfl, ?yuput4p3p7x8⟩) (by assumption) ?huput4p3p7x8 ?zuput4p3p7x8
              case yuput4p3p7x8 => (intro w hSw; (try dsimp only at hSw); go_simp; try (with_reducible rfl))
              case huput4p3p7x8 => (go_simp; exact rfl)
              case zuput4p3p7x8 =>
              refine wpAnyH_at (i := 9) (v := ?vuput4p3p7x9) (a1 := ?xuput4p3p7x9) rfl (by kernel_rfl) (by kernel_rfl) (by kernel_rfl) (fun _ _ _ h => h) (Or.inl ⟨by rfl, ?yuput4p3p7x9⟩) (by assumption) ?huput4p3p7x9 ?zuput4p3p7x9
              case yuput4p3p7x9 => (intro w hSw; (try dsimp only at hSw); go_simp; try (with_reducible rfl))
              case huput4p3p7x9 => (go_simp; exact rfl)
              case zuput4p3p7x9 =>
              refine wpAnyH_done (by kernel_rfl) ?_ _
              go_wp2_with fail
              go_meet
              exact ⟨rfl, _, _, _, hide HT0q3q7.out.drop⟩
            have hz3 : decide (d = 3) = false := decide_eq_false hd0
            have hy3 : (d == 3) = false := by simpa using hd0
            clear hd0
            by_cases hd0 : d = 4
            · as_aux_lemma =>
              have hd9 : d = 4 := hd0
              subst hd9
              go_wp2_with fail
              clear x0 x1 x2 x3 x4 x5 x6 x7 x8 x9 x10 x11 x12 x13 x14 x15 x16
              refine (take_p HC.out HG.out HT5.out n HNB.out).mono ?_
              rintro e w6 ⟨⟨t1, b1, ms1, rfl, ok1, hp1, hT⟩, hR⟩
              obtain ⟨piu4, niu4, ciu4, ppu4, npu4, cpu4, p1u4, n1u4, c1u4, p2u4, n2u4, c2u4, p3u4, n3u4, c3u4, p4u4, n4u4, c4u4, p5u4, n5u4, c5u4, eiu4, epu4, e1u4, e2u4, e3u4, e4u4, e5u4⟩ := Im.shape ok1
              obtain ⟨mu4, viu4, vpu4, v1u4, v2u4, v3u4, v4u4, v5u4, idsu4, ttu4, l1u4, l2u4, l3u4, l4u4, l5u4⟩ := t1
              dsimp only at eiu4 epu4 e1u4 e2u4 e3u4 e4u4 e5u4
              subst eiu4 epu4 e1u4 e2u4 e3u4 e4u4 e5u4
              have HP1 := hide hp1
              have OK1 := hide ok1
              have HT6 := hide hT
              have HE6 : Hid (w6.heap[wr.heap.size]? = w5.heap[wr.heap.size]?) := hide (hR.1 _ (by simp))
              clear hp1 ok1 hT hR
              go_upto_region 24 with (refine wpList_store_row rfl 35 _ _ rfl w6.heap.size #[.int .i64 mu4.kind, .int .i64 mu4.fr, .int .i64 mu4.to, .int .i64 mu4.ep, .slice piu4 niu4 ciu4, .slice ppu4 npu4 cpu4, .int .i64 mu4.pol.ep, .slice p1u4 n1u4 c1u4, .slice p2u4 n2u4 c2u4, .slice p3u4 n3u4 c3u4, .slice p4u4 n4u4 c4u4, .slice p5u4 n5u4 c5u4, .int .i64 mu4.pol.dp, .int .i64 mu4.pol.nd, .int .i64 mu4.pol.bt] rfl rfl 35 _ (new_block _ _ _) (by kernel_rfl) rfl (by simp [Value.oneCell']) ?_; rw [World.setRow_alloc_new])
              obtain ⟨w7, hw7⟩ : ∃ w7, w7 = w6.alloc (.cells #[.int .i64 mu4.kind, .int .i64 mu4.fr, .int .i64 mu4.to, .int .i64 mu4.ep, .slice piu4 niu4 ciu4, .slice ppu4 npu4 cpu4, .int .i64 mu4.pol.ep, .slice p1u4 n1u4 c1u4, .slice p2u4 n2u4 c2u4, .slice p3u4 n3u4 c3u4, .slice p4u4 n4u4 c4u4, .slice p5u4 n5u4 c5u4, .int .i64 mu4.pol.dp, .int .i64 mu4.pol.nd, .int .i64 mu4.pol.bt] 35) := ⟨_, rfl⟩
              rw [← hw7]
              have hb7 : Below w6.heap.size w6 w7 := by rw [hw7]; exact bel_alloc (Below.refl _ _) _
              have HT7 : Hid (TSm Bx w [w6.heap.size, wr.heap.size] w7 a rb ms1 ts p c) := hide (by rw [hw7]; exact HT6.out.push HC.out _)
              have HM7 : Hid (w7.heap[w6.heap.size]? = some (.cells #[.int .i64 mu4.kind, .int .i64 mu4.fr, .int .i64 mu4.to, .int .i64 mu4.ep, .slice piu4 niu4 ciu4, .slice ppu4 npu4 cpu4, .int .i64 mu4.pol.ep, .slice p1u4 n1u4 c1u4, .slice p2u4 n2u4 c2u4, .slice p3u4 n3u4 c3u4, .slice p4u4 n4u4 c4u4, .slice p5u4 n5u4 c5u4, .int .i64 mu4.pol.dp, .int .i64 mu4.pol.nd, .int .i64 mu4.pol.bt] 35 (0, 0))) := hide (by rw [hw7]; exact new_block _ _ _)
              have OK7 : Hid (Im.ok w7 ⟨mu4, .slice piu4 niu4 ciu4, .slice ppu4 npu4 cpu4, .slice p1u4 n1u4 c1u4, .slice p2u4 n2u4 c2u4, .slice p3u4 n3u4 c3u4, .slice p4u4 n4u4 c4u4, .slice p5u4 n5u4 c5u4, idsu4, ttu4, l1u4, l2u4, l3u4, l4u4, l5u4⟩) := hide (OK1.out.below hb7)
              have y1 := SK1.out w7 ((hb7.block _ (HT6.out.q _ (by simp)).2.1).trans HE6.out)
              clear hw7 hb7 OK1 HT6
              go_wp2_with fail
              clear y1
              refine (take_rk HC.out HG.out HT7.out n).mono ?_
              rintro e w8 ⟨⟨t2, b2, ts2, p2x, c2x, rfl, ok2, hp2, hT8⟩, hR8, hk8⟩
              obtain ⟨eb, em, el⟩ := HP1.out.one hp2
              subst eb
              subst el
              obtain ⟨piv4, niv4, civ4, ppv4, npv4, cpv4, p1v4, n1v4, c1v4, p2v4, n2v4, c2v4, p3v4, n3v4, c3v4, p4v4, n4v4, c4v4, p5v4, n5v4, c5v4, eiv4, epv4, e1v4, e2v4, e3v4, e4v4, e5v4⟩ := Im.shape ok2
              obtain ⟨mv4, viv4, vpv4, v1v4, v2v4, v3v4, v4v4, v5v4, idsv4, ttv4, l1v4, l2v4, l3v4, l4v4, l5v4⟩ := t2
              dsimp only at eiv4 epv4 e1v4 e2v4 e3v4 e4v4 e5v4
              subst eiv4 epv4 e1v4 e2v4 e3v4 e4v4 e5v4
              dsimp only at em
              subst em
              have OK8 : Hid (Im.ok w8 ⟨mu4, .slice piu4 niu4 ciu4, .slice ppu4 npu4 cpu4, .slice p1u4 n1u4 c1u4, .slice p2u4 n2u4 c2u4, .slice p3u4 n3u4 c3u4, .slice p4u4 n4u4 c4u4, .slice p5u4 n5u4 c5u4, idsu4, ttu4, l1u4, l2u4, l3u4, l4u4, l5u4⟩) := hide (OK7.out.keepS (HT7.out.r.texts hk8) (HG.out.below hT8.r.bw).1)
              have OK2 := hide ok2
              have HT8 := hide hT8
              have HM8 : Hid (w8.heap[w6.heap.size]? = some (.cells #[.int .i64 mu4.kind, .int .i64 mu4.fr, .int .i64 mu4.to, .int .i64 mu4.ep, .slice piu4 niu4 ciu4, .slice ppu4 npu4 cpu4, .int .i64 mu4.pol.ep, .slice p1u4 n1u4 c1u4, .slice p2u4 n2u4 c2u4, .slice p3u4 n3u4 c3u4, .slice p4u4 n4u4 c4u4, .slice p5u4 n5u4 c5u4, .int .i64 mu4.pol.dp, .int .i64 mu4.pol.nd, .int .i64 mu4.pol.bt] 35 (0, 0))) := hide ((hR8.1 _ (by simp)).trans HM7.out)
              clear hp2 ok2 hT8 hR8 hk8 HT7 OK7 HM7 HP1
              go_upto_region 25 with (refine wpList_store_row rfl 35 _ _ rfl w8.heap.size #[.int .i64 mu4.kind, .int .i64 mu4.fr, .int .i64 mu4.to, .int .i64 mu4.ep, .slice piv4 niv4 civ4, .slice ppv4 npv4 cpv4, .int .i64 mu4.pol.ep, .slice p1v4 n1v4 c1v4, .slice p2v4 n2v4 c2v4, .slice p3v4 n3v4 c3v4, .slice p4v4 n4v4 c4v4, .slice p5v4 n5v4 c5v4, .int .i64 mu4.pol.dp, .int .i64 mu4.pol.nd, .int .i64 mu4.pol.bt] rfl rfl 35 _ (new_block _ _ _) (by kernel_rfl) rfl (by simp [Value.oneCell']) ?_; rw [World.setRow_alloc_new])
              obtain ⟨w9, hw9⟩ : ∃ w9, w9 = w8.alloc (.cells #[.int .i64 mu4.kind, .int .i64 mu4.fr, .int .i64 mu4.to, .int .i64 mu4.ep, .slice piv4 niv4 civ4, .slice ppv4 npv4 cpv4, .int .i64 mu4.pol.ep, .slice p1v4 n1v4 c1v4, .slice p2v4 n2v4 c2v4, .slice p3v4 n3v4 c3v4, .slice p4v4 n4v4 c4v4, .slice p5v4 n5v4 c5v4, .int .i64 mu4.pol.dp, .int .i64 mu4.pol.nd, .int .i64 mu4.pol.bt] 35) := ⟨_, rfl⟩
              rw [← hw9]
              have hb9 : Below w8.heap.size w8 w9 := by rw [hw9]; exact bel_alloc (Below.refl _ _) _
              have HM9 : Hid (w9.heap[w6.heap.size]? = some (.cells #[.int .i64 mu4.kind, .int .i64 mu4.fr, .int .i64 mu4.to, .int .i64 mu4.ep, .slice piu4 niu4 ciu4, .slice ppu4 npu4 cpu4, .int .i64 mu4.pol.ep, .slice p1u4 n1u4 c1u4, .slice p2u4 n2u4 c2u4, .slice p3u4 n3u4 c3u4, .slice p4u4 n4u4 c4u4, .slice p5u4 n5u4 c5u4, .int .i64 mu4.pol.dp, .int .i64 mu4.pol.nd, .int .i64 mu4.pol.bt] 35 (0, 0))) := hide ((hb9.block _ (Array.getElem?_eq_some_iff.1 HM8.out).1).trans HM8.out)
              have HN9 : Hid (w9.heap[w8.heap.size]? = some (.cells #[.int .i64 mu4.kind, .int .i64 mu4.fr, .int .i64 mu4.to, .int .i64 mu4.ep, .slice piv4 niv4 civ4, .slice ppv4 npv4 cpv4, .int .i64 mu4.pol.ep, .slice p1v4 n1v4 c1v4, .slice p2v4 n2v4 c2v4, .slice p3v4 n3v4 c3v4, .slice p4v4 n4v4 c4v4, .slice p5v4 n5v4 c5v4, .int .i64 mu4.pol.dp, .int .i64 mu4.pol.nd, .int .i64 mu4.pol.bt] 35 (0, 0))) := hide (by rw [hw9]; exact new_block _ _ _)
              have HT9 := hide (HT8.out.below HC.out hb9)
              have CS := hide (same_true ⟨mu4, .slice piu4 niu4 ciu4, .slice ppu4 npu4 cpu4, .slice p1u4 n1u4 c1u4, .slice p2u4 n2u4 c2u4, .slice p3u4 n3u4 c3u4, .slice p4u4 n4u4 c4u4, .slice p5u4 n5u4 c5u4, idsu4, ttu4, l1u4, l2u4, l3u4, l4u4, l5u4⟩ ⟨mu4, .slice piv4 niv4 civ4, .slice ppv4 npv4 cpv4, .slice p1v4 n1v4 c1v4, .slice p2v4 n2v4 c2v4, .slice p3v4 n3v4 c3v4, .slice p4v4 n4v4 c4v4, .slice p5v4 n5v4 c5v4, idsv4, ttv4, l1v4, l2v4, l3v4, l4v4, l5v4⟩ rfl w9 (OK8.out.below hb9) (OK2.out.below hb9))
              clear hw9 hb9 HM8 HT8 OK8 OK2
              go_wp2_with (first | (refine wpList_load_row rfl 35 _ rfl w6.heap.size rfl 35 #[.int .i64 mu4.kind, .int .i64 mu4.fr, .int .i64 mu4.to, .int .i64 mu4.ep, .slice piu4 niu4 ciu4, .slice ppu4 npu4 cpu4, .int .i64 mu4.pol.ep, .slice p1u4 n1u4 c1u4, .slice p2u4 n2u4 c2u4, .slice p3u4 n3u4 c3u4, .slice p4u4 n4u4 c4u4, .slice p5u4 n5u4 c5u4, .int .i64 mu4.pol.dp, .int .i64 mu4.pol.nd, .int .i64 mu4.pol.bt] (0, 0) _ HM9.out Tryz.underlying35 rfl (by kernel_rfl) ?_) | (refine wpList_load_row rfl 35 _ rfl w8.heap.size rfl 35 #[.int .i64 mu4.kind, .int .i64 mu4.fr, .int .i64 mu4.to, .int .i64 mu4.ep, .slice piv4 niv4 civ4, .slice ppv4 npv4 cpv4, .int .i64 mu4.pol.ep, .slice p1v4 n1v4 c1v4, .slice p2v4 n2v4 c2v4, .slice p3v4 n3v4 c3v4, .slice p4v4 n4v4 c4v4, .slice p5v4 n5v4 c5v4, .int .i64 mu4.pol.dp, .int .i64 mu4.pol.nd, .int .i64 mu4.pol.bt] (0, 0) _ HN9.out Tryz.underlying35 rfl (by kernel_rfl) ?_))
              refine CS.out.mono ?_
              rintro e w10 ⟨rfl, hb10⟩
              have HT10 := hide (HT9.out.below HC.out hb10).drop
              clear hb10 CS HT9 HM9 HN9
              have hbb : (b1 == b1) = true := by simp
              go_wp2_with fail
              go_meet
              exact ⟨rfl, _, _, _, HT10⟩
            have hz4 : decide (d = 4) = false := decide_eq_false hd0
            have hy4 : (d == 4) = false := by simpa using hd0
            clear hd0
            by_cases hd0 : d = 5
            · as_aux_lemma =>
              have hd9 : d = 5 := hd0
              subst hd9
              go_wp2_with fail
              clear x0 x1 x2 x3 x4 x5 x6 x7 x8 x9 x10 x11 x12 x13 x14 x15 x16
              refine (take_p HC.out HG.out HT5.out n HNB.out).mono ?_
              rintro e w6 ⟨⟨t1, b1, ms1, rfl, ok1, hp1, hT⟩, hR⟩
              obtain ⟨piu5, niu5, ciu5, ppu5, npu5, cpu5, p1u5, n1u5, c1u5, p2u5, n2u5, c2u5, p3u5, n3u5, c3u5, p4u5, n4u5, c4u5, p5u5, n5u5, c5u5, eiu5, epu5, e1u5, e2u5, e3u5, e4u5, e5u5⟩ := Im.shape ok1
              obtain ⟨mu5, viu5, vpu5, v1u5, v2u5, v3u5, v4u5, v5u5, idsu5, ttu5, l1u5, l2u5, l3u5, l4u5, l5u5⟩ := t1
              dsimp only at eiu5 epu5 e1u5 e2u5 e3u5 e4u5 e5u5
              subst eiu5 epu5 e1u5 e2u5 e3u5 e4u5 e5u5
              have HP1 := hide hp1
              have OK1 := hide ok1
              have HT6 := hide hT
              have HE6 : Hid (w6.heap[wr.heap.size]? = w5.heap[wr.heap.size]?) := hide (hR.1 _ (by simp))
              clear hp1 ok1 hT hR
              go_upto_region 24 with (refine wpList_store_row rfl 35 _ _ rfl w6.heap.size #[.int .i64 mu5.kind, .int .i64 mu5.fr, .int .i64 mu5.to, .int .i64 mu5.ep, .slice piu5 niu5 ciu5, .slice ppu5 npu5 cpu5, .int .i64 mu5.pol.ep, .slice p1u5 n1u5 c1u5, .slice p2u5 n2u5 c2u5, .slice p3u5 n3u5 c3u5, .slice p4u5 n4u5 c4u5, .slice p5u5 n5u5 c5u5, .int .i64 mu5.pol.dp, .int .i64 mu5.pol.nd, .int .i64 mu5.pol.bt] rfl rfl 35 _ (new_block _ _ _) (by kernel_rfl) rfl (by simp [Value.oneCell']) ?_; rw [World.setRow_alloc_new])
              obtain ⟨w7, hw7⟩ : ∃ w7, w7 = w6.alloc (.cells #[.int .i64 mu5.kind, .int .i64 mu5.fr, .int .i64 mu5.to, .int .i64 mu5.ep, .slice piu5 niu5 ciu5, .slice ppu5 npu5 cpu5, .int .i64 mu5.pol.ep, .slice p1u5 n1u5 c1u5, .slice p2u5 n2u5 c2u5, .slice p3u5 n3u5 c3u5, .slice p4u5 n4u5 c4u5, .slice p5u5 n5u5 c5u5, .int .i64 mu5.pol.dp, .int .i64 mu5.pol.nd, .int .i64 mu5.pol.bt] 35) := ⟨_, rfl⟩
              rw [← hw7]
              have hb7 : Below w6.heap.size w6 w7 := by rw [hw7]; exact bel_alloc (Below.refl _ _) _
              have HT7 : Hid (TSm Bx w [w6.heap.size, wr.heap.size] w7 a rb ms1 ts p c) := hide (by rw [hw7]; exact HT6.out.push HC.out _)
              have HM7 : Hid (w7.heap[w6.heap.size]? = some (.cells #[.int .i64 mu5.kind, .int .i64 mu5.fr, .int .i64 mu5.to, .int .i64 mu5.ep, .slice piu5 niu5 ciu5, .slice ppu5 npu5 cpu5, .int .i64 mu5.pol.ep, .slice p1u5 n1u5 c1u5, .slice p2u5 n2u5 c2u5, .slice p3u5 n3u5 c3u5, .slice p4u5 n4u5 c4u5, .slice p5u5 n5u5 c5u5, .int .i64 mu5.pol.dp, .int .i64 mu5.pol.nd, .int .i64 mu5.pol.bt] 35 (0, 0))) := hide (by rw [hw7]; exact new_block _ _ _)
              have OK7 : Hid (Im.ok w7 ⟨mu5, .slice piu5 niu5 ciu5, .slice ppu5 npu5 cpu5, .slice p1u5 n1u5 c1u5, .slice p2u5 n2u5 c2u5, .slice p3u5 n3u5 c3u5, .slice p4u5 n4u5 c4u5, .slice p5u5 n5u5 c5u5, idsu5, ttu5, l1u5, l2u5, l3u5, l4u5, l5u5⟩) := hide (OK1.out.below hb7)
              have y1 := SK1.out w7 ((hb7.block _ (HT6.out.q _ (by simp)).2.1).trans HE6.out)
              clear hw7 hb7 OK1 HT6
              go_wp2_with fail
              clear y1
              refine (take_rk HC.out HG.out HT7.out n).mono ?_
              rintro e w8 ⟨⟨t2, b2, ts2, p2x, c2x, rfl, ok2, hp2, hT8⟩, hR8, hk8⟩
              obtain ⟨eb, em, el⟩ := HP1.out.one hp2
              subst eb
              subst el
              obtain ⟨piv5, niv5, civ5, ppv5, npv5, cpv5, p1v5, n1v5, c1v5, p2v5, n2v5, c2v5, p3v5, n3v5, c3v5, p4v5, n4v5, c4v5, p5v5, n5v5, c5v5, eiv5, epv5, e1v5, e2v5, e3v5, e4v5, e5v5⟩ := Im.shape ok2
              obtain ⟨mv5, viv5, vpv5, v1v5, v2v5, v3v5, v4v5, v5v5, idsv5, ttv5, l1v5, l2v5, l3v5, l4v5, l5v5⟩ := t2
              dsimp only at eiv5 epv5 e1v5 e2v5 e3v5 e4v5 e5v5
              subst eiv5 epv5 e1v5 e2v5 e3v5 e4v5 e5v5
              dsimp only at em
              subst em
              have OK8 : Hid (Im.ok w8 ⟨mu5, .slice piu5 niu5 ciu5, .slice ppu5 npu5 cpu5, .slice p1u5 n1u5 c1u5, .slice p2u5 n2u5 c2u5, .slice p3u5 n3u5 c3u5, .slice p4u5 n4u5 c4u5, .slice p5u5 n5u5 c5u5, idsu5, ttu5, l1u5, l2u5, l3u5, l4u5, l5u5⟩) := hide (OK7.out.keepS (HT7.out.r.texts hk8) (HG.out.below hT8.r.bw).1)
              have OK2 := hide ok2
              have HT8 := hide hT8
              have HM8 : Hid (w8.heap[w6.heap.size]? = some (.cells #[.int .i64 mu5.kind, .int .i64 mu5.fr, .int .i64 mu5.to, .int .i64 mu5.ep, .slice piu5 niu5 ciu5, .slice ppu5 npu5 cpu5, .int .i64 mu5.pol.ep, .slice p1u5 n1u5 c1u5, .slice p2u5 n2u5 c2u5, .slice p3u5 n3u5 c3u5, .slice p4u5 n4u5 c4u5, .slice p5u5 n5u5 c5u5, .int .i64 mu5.pol.dp, .int .i64 mu5.pol.nd, .int .i64 mu5.pol.bt] 35 (0, 0))) := hide ((hR8.1 _ (by simp)).trans HM7.out)
              clear hp2 ok2 hT8 hR8 hk8 HT7 OK7 HM7 HP1
              go_upto_region 25 with (refine wpList_store_row rfl 35 _ _ rfl w8.heap.size #[.int .i64 mu5.kind, .int .i64 mu5.fr, .int .i64 mu5.to, .int .i64 mu5.ep, .slice piv5 niv5 civ5, .slice ppv5 npv5 cpv5, .int .i64 mu5.pol.ep, .slice p1v5 n1v5 c1v5, .slice p2v5 n2v5 c2v5, .slice p3v5 n3v5 c3v5, .slice p4v5 n4v5 c4v5, .slice p5v5 n5v5 c5v5, .int .i64 mu5.pol.dp, .int .i64 mu5.pol.nd, .int .i64 mu5.pol.bt] rfl rfl 35 _ (new_block _ _ _) (by kernel_rfl) rfl (by simp [Value.oneCell']) ?_; rw [World.setRow_alloc_new])
              obtain ⟨w9, hw9⟩ : ∃ w9, w9 = w8.alloc (.cells #[.int .i64 mu5.kind, .int .i64 mu5.fr, .int .i64 mu5.to, .int .i64 mu5.ep, .slice piv5 niv5 civ5, .slice ppv5 npv5 cpv5, .int .i64 mu5.pol.ep, .slice p1v5 n1v5 c1v5, .slice p2v5 n2v5 c2v5, .slice p3v5 n3v5 c3v5, .slice p4v5 n4v5 c4v5, .slice p5v5 n5v5 c5v5, .int .i64 mu5.pol.dp, .int .i64 mu5.pol.nd, .int .i64 mu5.pol.bt] 35) := ⟨_, rfl⟩
              rw [← hw9]
              have hb9 : Below w8.heap.size w8 w9 := by rw [hw9]; exact bel_alloc (Below.refl _ _) _
              have HM9 : Hid (w9.heap[w6.heap.size]? = some (.cells #[.int .i64 mu5.kind, .int .i64 mu5.fr, .int .i64 mu5.to, .int .i64 mu5.ep, .slice piu5 niu5 ciu5, .slice ppu5 npu5 cpu5, .int .i64 mu5.pol.ep, .slice p1u5 n1u5 c1u5, .slice p2u5 n2u5 c2u5, .slice p3u5 n3u5 c3u5, .slice p4u5 n4u5 c4u5, .slice p5u5 n5u5 c5u5, .int .i64 mu5.pol.dp, .int .i64 mu5.pol.nd, .int .i64 mu5.pol.bt] 35 (0, 0))) := hide ((hb9.block _ (Array.getElem?_eq_some_iff.1 HM8.out).1).trans HM8.out)
              have HN9 : Hid (w9.heap[w8.heap.size]? = some (.cells #[.int .i64 mu5.kind, .int .i64 mu5.fr, .int .i64 mu5.to, .int .i64 mu5.ep, .slice piv5 niv5 civ5, .slice ppv5 npv5 cpv5, .int .i64 mu5.pol.ep, .slice p1v5 n1v5 c1v5, .slice p2v5 n2v5 c2v5, .slice p3v5 n3v5 c3v5, .slice p4v5 n4v5 c4v5, .slice p5v5 n5v5 c5v5, .int .i64 mu5.pol.dp, .int .i64 mu5.pol.nd, .int .i64 mu5.pol.bt] 35 (0, 0))) := hide (by rw [hw9]; exact new_block _ _ _)
              have HT9 := hide (HT8.out.below HC.out hb9)
              have CS := hide (same_true ⟨mu5, .slice piu5 niu5 ciu5, .slice ppu5 npu5 cpu5, .slice p1u5 n1u5 c1u5, .slice p2u5 n2u5 c2u5, .slice p3u5 n3u5 c3u5, .slice p4u5 n4u5 c4u5, .slice p5u5 n5u5 c5u5, idsu5, ttu5, l1u5, l2u5, l3u5, l4u5, l5u5⟩ ⟨mu5, .slice piv5 niv5 civ5, .slice ppv5 npv5 cpv5, .slice p1v5 n1v5 c1v5, .slice p2v5 n2v5 c2v5, .slice p3v5 n3v5 c3v5, .slice p4v5 n4v5 c4v5, .slice p5v5 n5v5 c5v5, idsv5, ttv5, l1v5, l2v5, l3v5, l4v5, l5v5⟩ rfl w9 (OK8.out.below hb9) (OK2.out.below hb9))
              clear hw9 hb9 HM8 HT8 OK8 OK2
              go_wp2_with (first | (refine wpList_load_row rfl 35 _ rfl w6.heap.size rfl 35 #[.int .i64 mu5.kind, .int .i64 mu5.fr, .int .i64 mu5.to, .int .i64 mu5.ep, .slice piu5 niu5 ciu5, .slice ppu5 npu5 cpu5, .int .i64 mu5.pol.ep, .slice p1u5 n1u5 c1u5, .slice p2u5 n2u5 c2u5, .slice p3u5 n3u5 c3u5, .slice p4u5 n4u5 c4u5, .slice p5u5 n5u5 c5u5, .int .i64 mu5.pol.dp, .int .i64 mu5.pol.nd, .int .i64 mu5.pol.bt] (0, 0) _ HM9.out Tryz.underlying35 rfl (by kernel_rfl) ?_) | (refine wpList_load_row rfl 35 _ rfl w8.heap.size rfl 35 #[.int .i64 mu5.kind, .int .i64 mu5.fr, .int .i64 mu5.to, .int .i64 mu5.ep, .slice piv5 niv5 civ5, .slice ppv5 npv5 cpv5, .int .i64 mu5.pol.ep, .slice p1v5 n1v5 c1v5, .slice p2v5 n2v5 c2v5, .slice p3v5 n3v5 c3v5, .slice p4v5 n4v5 c4v5, .slice p5v5 n5v5 c5v5, .int .i64 mu5.pol.dp, .int .i64 mu5.pol.nd, .int .i64 mu5.pol.bt] (0, 0) _ HN9.out Tryz.underlying35 rfl (by kernel_rfl) ?_))
              refine CS.out.mono ?_
              rintro e w10 ⟨rfl, hb10⟩
              have HT10 := hide (HT9.out.below HC.out hb10).drop
              clear hb10 CS HT9 HM9 HN9
              have hbb : (b1 == b1) = true := by simp
              go_wp2_with fail
              go_meet
              exact ⟨rfl, _, _, _, HT10⟩
            have hz5 : decide (d = 5) = false := decide_eq_false hd0
            have hy5 : (d == 5) = false := by simpa using hd0
            clear hd0
            as_aux_lemma =>
              go_upto_region 15 with fail
              have HT0 : Hid (TSm Bx w [wr.heap.size] w5.drew a rb (ts.map Im.m) ts p c) := hide (HT5.out.below HC.out ((Below.refl _ _).drew))
              have HE0 : Hid (w5.drew.heap[wr.heap.size]? = w5.heap[wr.heap.size]?) := hide rfl
              clear x0 x1 x2 x3 x4 x5 x6 x7 x8 x9 x10 x11 x12 x13 x14 x15 x16
              refine wp_region_held_drew (S := (fun wx => wx.cell? ⟨wr.heap.size, 1, none⟩ = some (.int .i64 n))) (by kernel_rfl) (SK1.out _ rfl) (fun hHeld => ?_)
              refine wpAnyH_at (i := 0) (v := ?vutwice5x0) (a1 := ?xutwice5x0) rfl (by kernel_rfl) (by kernel_rfl) (by kernel_rfl) (fun _ _ _ h => h) (Or.inl ⟨by rfl, ?yutwice5x0⟩) (by assumption) ?hutwice5x0 ?zutwice5x0
              case yutwice5x0 => (intro w hSw; (try dsimp only at hSw); go_simp; try (with_reducible rfl))
              case hutwice5x0 => (go_simp; exact rfl)
              case zutwice5x0 =>
              refine wpAnyH_at (i := 1) (v := ?vutwice5x1) (a1 := ?xutwice5x1) rfl (by kernel_rfl) (by kernel_rfl) (by kernel_rfl) (fun _ _ _ h => h) (Or.inl ⟨by rfl, ?yutwice5x1⟩) (by assumption) ?hutwice5x1 ?zutwice5x1
              case yutwice5x1 => (intro w hSw; (try dsimp only at hSw); go_simp; try (with_reducible rfl))
              case hutwice5x1 => (go_simp; exact rfl)
              case zutwice5x1 =>
              refine wpAnyH_at (i := 2) (v := ?vutwice5x2) (a1 := ?xutwice5x2) rfl (by kernel_rfl) (by kernel_rfl) (by kernel_rfl) (fun _ _ _ h => h) (Or.inl ⟨by rfl, ?yutwice5x2⟩) (by assumption) ?hutwice5x2 ?zutwice5x2
              case yutwice5x2 => (intro w hSw; (try dsimp only at hSw); go_simp; try (with_reducible rfl))
              case hutwice5x2 => (go_simp; exact rfl)
              case zutwice5x2 =>
              refine wpAnyH_at (i := 4) (v := ?vutwice5x4) (a1 := ?xutwice5x4) rfl (by kernel_rfl) (by kernel_rfl) (by kernel_rfl) (fun _ _ _ h => h) (Or.inl ⟨by rfl, ?yutwice5x4⟩) (by assumption) ?hutwice5x4 ?zutwice5x4
              case yutwice5x4 => (intro w hSw; (try dsimp only at hSw); go_simp; try (with_reducible rfl))
              case hutwice5x4 => (go_simp; exact rfl)
              case zutwice5x4 =>
              refine wpAnyH_at (i := 5) (v := ?vutwice5x5) (a1 := ?xutwice5x5) rfl (by kernel_rfl) (by kernel_rfl) (by kernel_rfl) (fun _ _ _ h => h) (Or.inl ⟨by rfl, ?yutwice5x5⟩) (by assumption) ?hutwice5x5 ?zutwice5x5
              case yutwice5x5 => (intro w hSw; (try dsimp only at hSw); go_simp; try (with_reducible rfl))
              case hutwice5x5 => (go_simp; exact rfl)
              case zutwice5x5 =>
              refine wpAnyH_at (i := 6) (v := ?vutwice5x6) (a1 := ?xutwice5x6) rfl (by kernel_rfl) (by kernel_rfl) (by kernel_rfl) (fun _ _ _ h => h) (Or.inl ⟨by rfl, ?yutwice5x6⟩) (by assumption) ?hutwice5x6 ?zutwice5x6
              case yutwice5x6 => (intro w hSw; (try dsimp only at hSw); go_simp; try (with_reducible rfl))
              case hutwice5x6 => (go_simp; exact rfl)
              case zutwice5x6 =>
              refine wpAnyH_ready (rs := [3]) (by kernel_rfl) (by simp) ?_
              refine AllReadyH.cons rfl (fun K hK => ?_) AllReadyH.nil
              go_simp
              refine (twice_p HC.out HG.out HT0.out n HNB.out).mono ?_
              rintro e wzq3 ⟨⟨cdq3, msq3, rfl, hp, hT⟩, hR⟩
              have HT0q3 := hide hT
              have HPq3 := hide hp
              have HE0q3 : Hid (wzq3.heap[wr.heap.size]? = w5.heap[wr.heap.size]?) := hide ((hR.1 _ (by simp)).trans HE0.out)
              clear hT hp hR
              try go_wp2_with fail
              refine hK.out _ _ (SK1.out _ HE0q3.out) (fun hHeld2 => ?_)
              clear hK K hHeld
              have hHeld := hHeld2
              clear hHeld2
              refine wpAnyH_ready (rs := [7]) (by kernel_rfl) (by simp) ?_
              refine AllReadyH.cons rfl (fun K hK => ?_) AllReadyH.nil
              go_simp
              refine (twice_r HC.out HT0q3.out n).mono ?_
              rintro e wzq3q7 ⟨⟨cdq3q7, tsq3q7, pq3q7, cq3q7, rfl, hp, hT⟩, hR⟩
              have HT0q3q7 := hide hT
              have HPq3q7 := hide hp
              have HE0q3q7 : Hid (wzq3q7.heap[wr.heap.size]? = w5.heap[wr.heap.size]?) := hide ((hR.1 _ (by simp)).trans HE0q3.out)
              obtain ⟨ec, em⟩ := TwiceR.one HPq3.out HPq3q7.out
              subst ec
              subst em
              clear hT hp hR
              try go_wp2_with fail
              refine hK.out _ _ (SK1.out _ HE0q3q7.out) (fun hHeld2 => ?_)
              clear hK K hHeld
              have hHeld := hHeld2
              clear hHeld2
              refine wpAnyH_at (i := 8) (v := ?vutwice5p3p7x8) (a1 := ?xutwice5p3p7x8) rfl (by kernel_rfl) (by kernel_rfl) (by kernel_rfl) (fun _ _ _ h => h) (Or.inl ⟨by rfl, ?yutwice5p3p7x8⟩) (by assumption) ?hutwice5p3p7x8 ?zutwice5p3p7x8
              case yutwice5p3p7x8 => (intro w hSw; (try dsimp only at hSw); go_simp; try (with_reducible rfl))
              case hutwice5p3p7x8 => (go_simp; exact rfl)
              case zutwice5p3p7x8 =>
              refine wpAnyH_at (i := 9) (v := ?vutwice5p3p7x9) (a1 := ?xutwice5p3p7x9) rfl (by kernel_rfl) (by kernel_rfl) (by kernel_rfl) (fun _ _ _ h => h) (Or.inl ⟨by rfl, ?yutwice5p3p7x9⟩) (by assumption) ?hutwice5p3p7x9 ?zutwice5p3p7x9
              case yutwice5p3p7x9 => (intro w hSw; (try dsimp only at hSw); go_simp; try (with_reducible rfl))
              case hutwice5p3p7x9 => (go_simp; exact rfl)
              case zutwice5p3p7x9 =>
              refine wpAnyH_done (by kernel_rfl) ?_ _
              go_wp2_with fail
              go_meet
              exact ⟨rfl, _, _, _, hide HT0q3q7.out.drop⟩
          case rest =>
          obtain ⟨rfl, ts9, p9, c9, HTC⟩ := hcut
          have B5 : True := trivial
          clear HNB HOK SK1 SK2 HT5 x0 x1 x2 x3 x4 x5 x6 x7 x8 x9 x10 x11 x12 x13 x14 x15 x16 B5
          have LEN9 : Hid (ts9.length ≤ 100000) := hide (by have := HTC.out.f2.len; rw [List.length_map] at this; omega)
          have SKR : Hid (∀ wx : World, Below wc.heap.size wc wx → wx.cell? ⟨rb, 0, none⟩ = some (.slice p9 ts9.length c9) ∧ Hid (Below wc.heap.size wc wx)) := hide (fun wx h => ⟨tag_cell (HTC.out.r.below h).b 0 _ rfl, hide h⟩)
          have SBR : Hid (∀ wx : World, (wx.cell? ⟨rb, 0, none⟩ = some (.slice p9 ts9.length c9) ∧ Hid (Below wc.heap.size wc wx)) → Below wc.heap.size wc wx) := hide (fun wx h => h.2.out)
          go_wp2_with fail
          refine wp_region_held_drew (S := (fun wx => wx.cell? ⟨rb, 0, none⟩ = some (.slice p9 ts9.length c9) ∧ Hid (Below wc.heap.size wc wx))) (by kernel_rfl) (SKR.out _ ((Below.refl _ _).drew)) (fun hHeld => ?_)
          refine wpAnyH_at (i := 0) (v := ?vz0) (a1 := ?xz0) rfl (by kernel_rfl) (by kernel_rfl) (by kernel_rfl) (fun _ _ _ h => h) (Or.inl ⟨by rfl, ?yz0⟩) (by assumption) ?hz0 ?zz0
          case yz0 => (intro w hSw; (try dsimp only at hSw); go_simp; try (with_reducible rfl))
          case hz0 => (go_simp; exact rfl)
          case zz0 =>
          refine wpAnyH_at (i := 2) (v := ?vz2) (a1 := ?xz2) rfl (by kernel_rfl) (by kernel_rfl) (by kernel_rfl) (fun _ _ _ h => h) (Or.inl ⟨by rfl, ?yz2⟩) (by assumption) ?hz2 ?zz2
          case yz2 => (intro w hSw; (try dsimp only at hSw); go_simp; try (with_reducible rfl))
          case hz2 => (go_simp; exact rfl)
          case zz2 =>
          refine wpAnyH_at (i := 3) (v := ?vz3) (a1 := ?xz3) rfl (by kernel_rfl) (by kernel_rfl) (by kernel_rfl) (fun _ _ _ h => h) (Or.inl ⟨by rfl, ?yz3⟩) (by assumption) ?hz3 ?zz3
          case yz3 => (intro w hSw; (try dsimp only at hSw); go_simp; try (with_reducible rfl))
          case hz3 => (go_simp; exact rfl)
          case zz3 =>
          refine wpAnyH_at (i := 4) (v := ?vz4) (a1 := ?xz4) rfl (by kernel_rfl) (by kernel_rfl) (by kernel_rfl) (fun _ _ _ h => h) (Or.inl ⟨by rfl, ?yz4⟩) (by assumption) ?hz4 ?zz4
          case yz4 => (intro w hSw; (try dsimp only at hSw); go_simp; try (with_reducible rfl))
          case hz4 => (go_simp; exact rfl)
          case zz4 =>
          refine wpAnyH_at (i := 5) (v := ?vz5) (a1 := ?xz5) rfl (by kernel_rfl) (by kernel_rfl) (by kernel_rfl) (fun _ _ _ h => h) (Or.inl ⟨by rfl, ?yz5⟩) (by assumption) ?hz5 ?zz5
          case yz5 => (intro w hSw; (try dsimp only at hSw); go_simp; try (with_reducible rfl))
          case hz5 => (go_simp; exact rfl)
          case zz5 =>
          refine wpAnyH_ready (rs := [1]) (by kernel_rfl) (by simp) ?_
          refine AllReadyH.cons rfl (fun K hK => ?_) AllReadyH.nil
          go_simp
          refine (all_p HC.out HG.out (HTC.out.below HC.out (SBR.out _ (by assumption)))).mono ?_
          rintro e w6 ⟨⟨u6, us6, rfl, hr6, hm6⟩, hb6⟩
          have HR6 := hide hr6
          have HM6 := hide hm6
          have H6 : Hid (Below wc.heap.size wc w6) := hide (bel2 (SBR.out _ (by assumption)) hb6)
          clear hr6 hm6 hb6
          try go_wp2_with fail
          refine hK.out _ _ (SKR.out _ H6.out) (fun hHeld2 => ?_)
          clear hK K hHeld
          have hHeld := hHeld2
          clear hHeld2
          refine wpAnyH_ready (rs := [6]) (by kernel_rfl) (by simp) ?_
          refine AllReadyH.cons rfl (fun K hK => ?_) AllReadyH.nil
          go_simp
          refine (rsamel_any _ _ us6 ts9 HM6.out (by have := congrArg List.length HM6.out; rw [List.length_map, List.length_map] at this; have := LEN9.out; omega) w6 HR6.out (HTC.out.below HC.out H6.out).r.row).mono ?_
          rintro e w7 ⟨rfl, hb7⟩
          have H7 : Hid (Below wc.heap.size wc w7) := hide (bel2 H6.out hb7)
          clear hb7
          try go_wp2_with fail
          refine hK.out _ _ (SKR.out _ H7.out) (fun hHeld2 => ?_)
          clear hK K hHeld
          have hHeld := hHeld2
          clear hHeld2
          refine wpAnyH_at (i := 7) (v := ?vz7) (a1 := ?xz7) rfl (by kernel_rfl) (by kernel_rfl) (by kernel_rfl) (fun _ _ _ h => h) (Or.inl ⟨by rfl, ?yz7⟩) (by assumption) ?hz7 ?zz7
          case yz7 => (intro w hSw; (try dsimp only at hSw); go_simp; try (with_reducible rfl))
          case hz7 => (go_simp; exact rfl)
          case zz7 =>
          refine wpAnyH_done (by kernel_rfl) ?_ _
          clear SKR SBR HR6 HM6 H6
          obtain ⟨K0, hK0⟩ : ∃ K : Int, K = ((cnt 0 (ts9.map Im.m) : Nat) : Int) := ⟨_, rfl⟩
          obtain ⟨K1, hK1⟩ : ∃ K : Int, K = ((cnt 1 (ts9.map Im.m) : Nat) : Int) := ⟨_, rfl⟩
          obtain ⟨K2, hK2⟩ : ∃ K : Int, K = ((cnt 2 (ts9.map Im.m) : Nat) : Int) := ⟨_, rfl⟩
          obtain ⟨K3, hK3⟩ : ∃ K : Int, K = ((cnt 3 (ts9.map Im.m) : Nat) : Int) := ⟨_, rfl⟩
          obtain ⟨K4, hK4⟩ : ∃ K : Int, K = ((cnt 4 (ts9.map Im.m) : Nat) : Int) := ⟨_, rfl⟩
          obtain ⟨K5, hK5⟩ : ∃ K : Int, K = ((cnt 5 (ts9.map Im.m) : Nat) : Int) := ⟨_, rfl⟩
          have hKA : cntA (ts9.map Im.m) = #[.int .i64 K0, .int .i64 K1, .int .i64 K2, .int .i64 K3, .int .i64 K4, .int .i64 K5] := by rw [hK0, hK1, hK2, hK3, hK4, hK5]; rfl
          have CM1 : Hid (Calls Tryz.prog 20 #[.pointer (some a)] w7 fun e w' => e = .returned (.agg #[.int .i64 K0, .int .i64 K1, .int .i64 K2, .int .i64 K3, .int .i64 K4, .int .i64 K5]) ∧ Below w7.heap.size w7 w') := hide (by
            rw [← hKA]
            exact many_p HC.out HG.out (HTC.out.below HC.out H7.out))
          have CM2 : Hid (∀ wx, Below wc.heap.size wc wx → Calls Tryz.prog 21 #[.pointer (some ⟨rb, 0, none⟩)] wx fun e w' => e = .returned (.agg #[.int .i64 K0, .int .i64 K1, .int .i64 K2, .int .i64 K3, .int .i64 K4, .int .i64 K5]) ∧ Below wx.heap.size wx w') := hide (fun wx hb => by
            rw [← hKA]
            exact rmany_any w rb ts9 p9 c9 wx (HTC.out.r.below hb) HTC.out.f2)
          have hq := fun wx => six_neq K0 K1 K2 K3 K4 K5 wx
          clear hK0 hK1 hK2 hK3 hK4 hK5 hKA
          go_wp2_with fail
          refine CM1.out.mono ?_
          rintro e w8 ⟨rfl, hb8⟩
          have H8 : Hid (Below wc.heap.size wc w8) := hide (bel2 H7.out hb8)
          clear hb8 CM1 H7
          go_wp2_with fail
          refine (CM2.out w8 H8.out).mono ?_
          rintro e w9 ⟨rfl, hb9⟩
          have H9 : Hid (TSm Bx w [] w9 a rb (ts9.map Im.m) ts9 p9 c9) := hide (HTC.out.below HC.out (bel2 H8.out hb9))
          clear hb9 CM2 H8
          go_wp2_with fail
          go_roundg (120 - (i + 1))
          case measure => omega
          case rel => exact ⟨i + 1, ts9, p9, c9, by omega, by omega, by first | rfl | (push_cast; rfl), H9⟩
      · have hd2 : decide ((i : Int) < 120) = false := decide_eq_false (by omega)
        go_wp2_with fail
        go_ret
        exact ⟨rfl, HT.out.r.bw⟩
    · have hd : decide ((i : Int) < (N : Int)) = false := decide_eq_false (by omega)
      go_wp2_with fail
      go_ret
      exact ⟨rfl, HT.out.r.bw⟩
end Go.Proofs.YtmogplecohkjcaaGreatDoor
