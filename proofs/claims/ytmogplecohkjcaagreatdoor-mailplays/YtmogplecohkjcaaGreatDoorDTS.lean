/-
  The program's box and the document's, side by side.
-/
import Derived.Test.YtmogplecohkjcaaGreatDoorDBB
import Derived.Test.YtmogplecohkjcaaGreatDoorDOP
namespace Go.Proofs.YtmogplecohkjcaaGreatDoor
open Go.RowKit
open Utf1
open Pol8 hiding text right Right
open Msg15 Mail17

/-- Two boxes, apart from one another and from the blocks Q. -/
structure TSm (Bx : World → Value → List Ms → List Nat → Prop) (w0 : World) (Q : List Nat) (wx : World) (a : Addr) (rb : Nat) (ms : List Ms) (ts : List Im) (p : Option Addr) (c : Nat) : Prop where
  f1 : Fine ms
  f2 : Fine (ts.map Im.m)
  r : RB w0 wx rb ts p c
  q : ∀ q ∈ Q, w0.heap.size ≤ q ∧ q < wx.heap.size ∧ q ∉ rblk rb p
  b : ∃ F, Bx wx (.pointer (some a)) ms F ∧ ∀ k ∈ F, w0.heap.size ≤ k ∧ k ∉ rblk rb p ∧ k ∉ Q
theorem rb_mem (rb : Nat) (p : Option Addr) : rb ∈ rblk rb p := by unfold rblk; cases p <;> simp
section
variable {Bx : World → Value → List Ms → List Nat → Prop} {w0 : World} {Q : List Nat} {wx : World} {a : Addr} {rb : Nat} {ms : List Ms} {ts : List Im} {p : Option Addr} {c : Nat}
/-- What all calls leave. -/
def Lv (w0 : World) (Q : List Nat) (wx w' : World) : Prop := (∀ q ∈ Q, w'.heap[q]? = wx.heap[q]?) ∧ Below w0.heap.size wx w'
theorem TSm.glob (h : TSm Bx w0 Q wx a rb ms ts p c) (hg : GlobM w0) : GlobM wx := hg.below h.r.bw
theorem TSm.below (C : MailC Bx) (h : TSm Bx w0 Q wx a rb ms ts p c) {w' : World} (hb : Below wx.heap.size wx w') : TSm Bx w0 Q w' a rb ms ts p c := by
  obtain ⟨F, h1, h2⟩ := h.b
  exact ⟨h.f1, h.f2, h.r.below hb, fun q hq => ⟨(h.q q hq).1, Nat.lt_of_lt_of_le (h.q q hq).2.1 hb.size, (h.q q hq).2.2⟩, F, C.stay h1 (fun k hk => hb.block k (C.lt h1 k hk)), h2⟩
theorem TSm.lv (h : TSm Bx w0 Q wx a rb ms ts p c) {w' : World} (hb : Below wx.heap.size wx w') : Lv w0 Q wx w' := ⟨fun q hq => hb.block q (h.q q hq).2.1, hb.mono h.r.bw.size⟩
/-- A new block beside them. -/
theorem TSm.add (C : MailC Bx) (h : TSm Bx w0 [] wx a rb ms ts p c) (o : Obj) : TSm Bx w0 [wx.heap.size] (wx.alloc o) a rb ms ts p c := by
  obtain ⟨F, h1, h2⟩ := h.b
  have hb : Below wx.heap.size wx (wx.alloc o) := bel_alloc (Below.refl _ _) o
  have hs := h.r.bw.size
  refine ⟨h.f1, h.f2, h.r.below hb, fun q hq => ?_, F, C.stay h1 (fun k hk => hb.block k (C.lt h1 k hk)), fun k hk => ⟨(h2 k hk).1, (h2 k hk).2.1, fun e => ?_⟩⟩
  · rw [List.mem_singleton.1 hq]
    exact ⟨hs, by simp, fun e => by have := (h.r.blk _ e).2; omega⟩
  · have := C.lt h1 k hk
    have := List.mem_singleton.1 e
    omega
theorem TSm.drop (h : TSm Bx w0 Q wx a rb ms ts p c) : TSm Bx w0 [] wx a rb ms ts p c := by
  obtain ⟨F, h1, h2⟩ := h.b
  exact ⟨h.f1, h.f2, h.r, fun q hq => (by cases hq), F, h1, fun k hk => ⟨(h2 k hk).1, (h2 k hk).2.1, fun e => (by cases e)⟩⟩
theorem TSm.stepP (_C : MailC Bx) (h : TSm Bx w0 Q wx a rb ms ts p c) {w' : World} {ms' : List Ms} {F F' : List Nat} (hF : ∀ k ∈ F, w0.heap.size ≤ k ∧ k ∉ rblk rb p ∧ k ∉ Q) (hx : Bx w' (.pointer (some a)) ms' F') (hf : Fine ms') (hn : Near wx F F') (hk : Keep wx w' F) : TSm Bx w0 Q w' a rb ms' ts p c ∧ Lv w0 Q wx w' := by
  have hb : Below w0.heap.size wx w' := hk.below (fun k hk => (hF k hk).1) h.r.bw.size
  refine ⟨⟨hf, h.f2, h.r.stay (h.r.bw.trans hb) (fun k hk' => hk.block k (h.r.blk k hk').2 (fun e => (hF k e).2.1 hk')), fun q hq => ⟨(h.q q hq).1, Nat.lt_of_lt_of_le (h.q q hq).2.1 hk.size, (h.q q hq).2.2⟩, F', hx, fun k hk' => ?_⟩, fun q hq => hk.block q (h.q q hq).2.1 (fun e => (hF q e).2.2 hq), hb⟩
  rcases hn k hk' with h1 | h1
  · exact hF k h1
  · have hs := h.r.bw.size
    exact ⟨by omega, fun e => by have := (h.r.blk k e).2; omega, fun e => by have := (h.q k e).2.1; omega⟩
theorem TSm.stepR (C : MailC Bx) (h : TSm Bx w0 Q wx a rb ms ts p c) {w' : World} {ts' : List Im} {p' : Option Addr} {c' : Nat} (hr : RB w0 w' rb ts' p' c') (hf : Fine (ts'.map Im.m)) (hn : Near wx (rblk rb p) (rblk rb p')) (hk : Keep wx w' [rb]) : TSm Bx w0 Q w' a rb ms ts' p' c' ∧ Lv w0 Q wx w' := by
  obtain ⟨F, h1, h2⟩ := h.b
  have hb : Below w0.heap.size wx w' := hk.below (fun k hk => by rw [List.mem_singleton.1 hk]; exact h.r.lo) h.r.bw.size
  refine ⟨⟨h.f1, hf, hr, fun q hq => ⟨(h.q q hq).1, Nat.lt_of_lt_of_le (h.q q hq).2.1 hk.size, fun e => ?_⟩, F, C.stay h1 (fun k hk' => hk.block k (C.lt h1 k hk') (fun e => (h2 k hk').2.1 (by rw [List.mem_singleton.1 e]; exact rb_mem rb p))), fun k hk' => ⟨(h2 k hk').1, fun e => ?_, (h2 k hk').2.2⟩⟩, fun q hq => hk.block q (h.q q hq).2.1 (fun e => (h.q q hq).2.2 (by rw [List.mem_singleton.1 e]; exact rb_mem rb p)), hb⟩
  · rcases hn q e with h3 | h3
    · exact (h.q q hq).2.2 h3
    · have := (h.q q hq).2.1
      omega
  · rcases hn k e with h3 | h3
    · exact (h2 k hk').2.1 h3
    · have := C.lt h1 k hk'
      omega
theorem put_p (C : MailC Bx) (hg : GlobM w0) (h : TSm Bx w0 Q wx a rb ms ts p c) (t : Im) (ht : t.ok w0) (hs : MRight t.m → Sml t.m) : Calls Tryz.prog 11 #[.pointer (some a), t.val] wx fun e w' => (∃ cd ms', e = .returned (.int .i64 cd) ∧ PutR ms t.m cd ms' ∧ TSm Bx w0 Q w' a rb ms' ts p c) ∧ Lv w0 Q wx w' := by
  obtain ⟨F, h1, h2⟩ := h.b
  refine (C.put wx _ ms F t (h.glob hg) h1 h.f1 (ht.below h.r.bw) hs).mono ?_
  rintro e w' ⟨⟨cd, ms', F', rfl, hp, hx, hn⟩, hk⟩
  have hst := h.stepP C h2 hx (hp.fine hs h.f1) hn hk
  exact ⟨⟨cd, ms', rfl, hp, hst.1⟩, hst.2⟩
theorem put_r (C : MailC Bx) (h : TSm Bx w0 Q wx a rb ms ts p c) (t : Im) (ht : t.ok w0) (hs : MRight t.m → Sml t.m) : Calls Tryz.prog 12 #[.pointer (some ⟨rb, 0, none⟩), t.val] wx fun e w' => (∃ cd ts' p' c', e = .returned (.int .i64 cd) ∧ PutR (ts.map Im.m) t.m cd (ts'.map Im.m) ∧ TSm Bx w0 Q w' a rb ms ts' p' c') ∧ Lv w0 Q wx w' := by
  refine (rput_any w0 rb ts p c t wx h.r h.f2 ht).mono ?_
  rintro e w' ⟨⟨cd, ts', p', c', rfl, hp, hr, hn⟩, hk⟩
  have hst := h.stepR C hr (hp.fine hs h.f2) hn hk
  exact ⟨⟨cd, ts', p', c', rfl, hp, hst.1⟩, hst.2⟩
theorem twice_p (C : MailC Bx) (hg : GlobM w0) (h : TSm Bx w0 Q wx a rb ms ts p c) (n : Int) (hn : -9223372036854775808 ≤ n ∧ n ≤ 9223372036854775807) : Calls Tryz.prog 16 #[.pointer (some a), .int .i64 n] wx fun e w' => (∃ cd ms', e = .returned (.int .i64 cd) ∧ TwiceR ms n cd ms' ∧ TSm Bx w0 Q w' a rb ms' ts p c) ∧ Lv w0 Q wx w' := by
  obtain ⟨F, h1, h2⟩ := h.b
  refine (C.twice wx _ ms F n (h.glob hg) h1 h.f1 hn).mono ?_
  rintro e w' ⟨⟨cd, ms', F', rfl, hp, hx, hn⟩, hk⟩
  have hs := h.stepP C h2 hx (hp.fine h.f1) hn hk
  exact ⟨⟨cd, ms', rfl, hp, hs.1⟩, hs.2⟩
theorem twice_r (C : MailC Bx) (h : TSm Bx w0 Q wx a rb ms ts p c) (n : Int) : Calls Tryz.prog 17 #[.pointer (some ⟨rb, 0, none⟩), .int .i64 n] wx fun e w' => (∃ cd ts' p' c', e = .returned (.int .i64 cd) ∧ TwiceR (ts.map Im.m) n cd (ts'.map Im.m) ∧ TSm Bx w0 Q w' a rb ms ts' p' c') ∧ Lv w0 Q wx w' := by
  refine (rtwice_any w0 rb ts p c n wx h.r h.f2).mono ?_
  rintro e w' ⟨⟨cd, ts', p', c', rfl, hp, hr, hn⟩, hk⟩
  have hs := h.stepR C hr (hp.fine h.f2) hn hk
  exact ⟨⟨cd, ts', p', c', rfl, hp, hs.1⟩, hs.2⟩
theorem take_p (C : MailC Bx) (hg : GlobM w0) (h : TSm Bx w0 Q wx a rb ms ts p c) (n : Int) (hn : -9223372036854775808 ≤ n ∧ n ≤ 9223372036854775807) : Calls Tryz.prog 13 #[.pointer (some a), .int .i64 n] wx fun e w' => (∃ (t : Im) (b : Bool) (ms' : List Ms), e = .returned (.tuple #[t.val, .bool b]) ∧ t.ok w' ∧ TakeR ms n b t.m ms' ∧ TSm Bx w0 Q w' a rb ms' ts p c) ∧ Lv w0 Q wx w' := by
  obtain ⟨F, h1, h2⟩ := h.b
  refine (C.take wx _ ms F n (h.glob hg) h1 h.f1 hn).mono ?_
  rintro e w' ⟨⟨t, b, ms', F', rfl, ht, hp, hx, hn⟩, hk⟩
  have hs := h.stepP C h2 hx (hp.fine h.f1) hn hk
  exact ⟨⟨t, b, ms', rfl, ht, hp, hs.1⟩, hs.2⟩
theorem take_r (C : MailC Bx) (hg : GlobM w0) (h : TSm Bx w0 Q wx a rb ms ts p c) (n : Int) : Calls Tryz.prog 14 #[.pointer (some ⟨rb, 0, none⟩), .int .i64 n] wx fun e w' => (∃ (t : Im) (b : Bool) (ts' : List Im) (p' : Option Addr) (c' : Nat), e = .returned (.tuple #[t.val, .bool b]) ∧ t.ok w' ∧ TakeR (ts.map Im.m) n b t.m (ts'.map Im.m) ∧ TSm Bx w0 Q w' a rb ms ts' p' c') ∧ Lv w0 Q wx w' := by
  refine (rtake_any w0 rb ts p c n wx (h.glob hg) h.r h.f2).mono ?_
  rintro e w' ⟨⟨t, b, ts', p', c', rfl, ht, hp, hr, hn⟩, hk⟩
  have hs := h.stepR C hr (hp.fine h.f2) hn hk
  exact ⟨⟨t, b, ts', p', c', rfl, ht, hp, hs.1⟩, hs.2⟩
theorem all_p (C : MailC Bx) (hg : GlobM w0) (h : TSm Bx w0 Q wx a rb ms ts p c) : Calls Tryz.prog 19 #[.pointer (some a)] wx fun e w' => (∃ u us, e = .returned u ∧ MRow w' u us ∧ us.map Im.m = ms) ∧ Below wx.heap.size wx w' := by
  obtain ⟨F, h1, h2⟩ := h.b
  refine (C.all wx _ ms F (h.glob hg) h1 h.f1).mono ?_
  rintro e w' ⟨⟨u, us, rfl, hr, hm, -⟩, hb⟩
  exact ⟨⟨u, us, rfl, hr, hm⟩, hb⟩
theorem many_p (C : MailC Bx) (hg : GlobM w0) (h : TSm Bx w0 Q wx a rb ms ts p c) : Calls Tryz.prog 20 #[.pointer (some a)] wx fun e w' => e = .returned (.agg (cntA ms)) ∧ Below wx.heap.size wx w' := by
  obtain ⟨F, h1, h2⟩ := h.b
  exact C.many wx _ ms F (h.glob hg) h1 h.f1
end
end Go.Proofs.YtmogplecohkjcaaGreatDoor
