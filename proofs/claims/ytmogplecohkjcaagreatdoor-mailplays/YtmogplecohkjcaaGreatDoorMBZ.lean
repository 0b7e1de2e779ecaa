/-
  Messages as values, and rows of them; what is asked of package mail.
-/
import Derived.Test.YtmogplecohkjcaaGreatDoorMZ
import Derived.Test.YtmogplecohkjcaaGreatDoorMEV
import Derived.Test.YtmogplecohkjcaaGreatDoorPD
import Derived.Deep.MidRow
import Derived.Deep.LoopGhost
import Derived.Deep.CutBlock
import Derived.BigQuiet
import Derived.Laws.Rows
import Derived.Laws.StructEq
import Derived.ChangeKeysEq
import Derived.Test.YtmogplecohkjcaaGreatDoorMD6
import Derived.Test.YtmogplecohkjcaaGreatDoorMD7
import Derived.Laws.AppendOwn
import Derived.Laws.AppendOwnNone
namespace Go.Proofs.YtmogplecohkjcaaGreatDoor
open Go.RowKit
open Utf1
open Pol8 hiding text right Right
open Msg15 Mail17

/-- All variables of the library that the road reads. -/
def GlobM (w : World) : Prop := Glob w ∧ GlobE w
theorem GlobM.below {w w' : World} (h : GlobM w) (hb : Below w.heap.size w w') : GlobM w' := ⟨h.1.below hb, h.2.below hb⟩
/-- A message, its slices and their texts. -/
structure Im where
  m : Ms
  vi : Value
  vp : Value
  v1 : Value
  v2 : Value
  v3 : Value
  v4 : Value
  v5 : Value
  ids : List ByteArray
  ts : List (ByteArray × ByteArray)
  l1 : List ByteArray
  l2 : List ByteArray
  l3 : List ByteArray
  l4 : List ByteArray
  l5 : List ByteArray
def Im.ok (w : World) (t : Im) : Prop := MV w t.m t.vi t.vp t.v1 t.v2 t.v3 t.v4 t.v5 t.ids t.ts t.l1 t.l2 t.l3 t.l4 t.l5
abbrev Im.cells (t : Im) : List Value := [.int .i64 t.m.kind, .int .i64 t.m.fr, .int .i64 t.m.to, .int .i64 t.m.ep, t.vi, t.vp, .int .i64 t.m.pol.ep, t.v1, t.v2, t.v3, t.v4, t.v5, .int .i64 t.m.pol.dp, .int .i64 t.m.pol.nd, .int .i64 t.m.pol.bt]
abbrev Im.val (t : Im) : Value := mval t.m.kind t.m.fr t.m.to t.m.ep t.vi t.vp t.m.pol t.v1 t.v2 t.v3 t.v4 t.v5
theorem Im.ok.below {w w' : World} {t : Im} (h : t.ok w) (hb : Below w.heap.size w w') : t.ok w' := MV.below h hb
theorem range_keep {w w' : World} {b o : Nat} {cs : List Value} (h : w.rangeAt b o cs) (hb : Below w.heap.size w w') : w'.rangeAt b o cs := fun j v hv => cell_keep (h j v hv) hb
/-- A slice holds messages. -/
def MRow (w : World) (v : Value) (ts : List Im) : Prop := ∃ p cap, v = .slice p ts.length cap ∧ ts.length ≤ cap ∧ (p = none → cap = 0) ∧ ∀ i t, ts[i]? = some t → (∃ b off, p = some ⟨b, off, none⟩ ∧ w.rangeAt b (off + i * 15) t.cells) ∧ t.ok w
theorem MRow.below {w w' : World} {v : Value} {ts : List Im} (h : MRow w v ts) (hb : Below w.heap.size w w') : MRow w' v ts := by
  obtain ⟨p, cap, rfl, hc, h0, hi⟩ := h
  refine ⟨p, cap, rfl, hc, h0, fun i t ht => ?_⟩
  obtain ⟨⟨b, off, e, hr⟩, hok⟩ := hi i t ht
  exact ⟨⟨b, off, e, range_keep hr hb⟩, hok.below hb⟩
theorem mRow_nil (w : World) : MRow w (.slice none 0 0) [] := ⟨none, 0, rfl, Nat.le_refl _, fun _ => rfl, fun i t h => by simp at h⟩
theorem MRow.shape {w : World} {v : Value} {ts : List Im} (h : MRow w v ts) : ∃ p c, v = .slice p ts.length c ∧ ts.length ≤ c := by
  obtain ⟨p, cap, rfl, hc, -, -⟩ := h
  exact ⟨p, cap, rfl, hc⟩
/-- One of a row. -/
theorem MRow.at {w : World} {p : Option Addr} {n c : Nat} {ts : List Im} (h : MRow w (.slice p n c) ts) {i : Nat} {t : Im} (hi : ts[i]? = some t) : ∃ b off, p = some ⟨b, off, none⟩ ∧ w.rangeAt b (off + i * 15) t.cells ∧ t.ok w := by
  obtain ⟨p', cap, e, hc, h0, hr⟩ := h
  injection e with e1 e2 e3
  subst e1
  obtain ⟨⟨b, off, rfl, h1⟩, h2⟩ := hr i t hi
  exact ⟨b, off, rfl, h1, h2⟩
theorem fifteen {w : World} {b o : Nat} {t : Im} (h : w.rangeAt b o t.cells) : w.cell? ⟨b, o, none⟩ = some (.int .i64 t.m.kind) ∧ w.cell? ⟨b, o + 1, none⟩ = some (.int .i64 t.m.fr) ∧ w.cell? ⟨b, o + 2, none⟩ = some (.int .i64 t.m.to) ∧ w.cell? ⟨b, o + 3, none⟩ = some (.int .i64 t.m.ep) ∧ w.cell? ⟨b, o + 4, none⟩ = some t.vi ∧ w.cell? ⟨b, o + 5, none⟩ = some t.vp ∧ w.cell? ⟨b, o + 6, none⟩ = some (.int .i64 t.m.pol.ep) ∧ w.cell? ⟨b, o + 7, none⟩ = some t.v1 ∧ w.cell? ⟨b, o + 8, none⟩ = some t.v2 ∧ w.cell? ⟨b, o + 9, none⟩ = some t.v3 ∧ w.cell? ⟨b, o + 10, none⟩ = some t.v4 ∧ w.cell? ⟨b, o + 11, none⟩ = some t.v5 ∧ w.cell? ⟨b, o + 12, none⟩ = some (.int .i64 t.m.pol.dp) ∧ w.cell? ⟨b, o + 13, none⟩ = some (.int .i64 t.m.pol.nd) ∧ w.cell? ⟨b, o + 14, none⟩ = some (.int .i64 t.m.pol.bt) := by
  have a0 := h 0 _ rfl
  have a1 := h 1 _ rfl
  have a2 := h 2 _ rfl
  have a3 := h 3 _ rfl
  have a4 := h 4 _ rfl
  have a5 := h 5 _ rfl
  have a6 := h 6 _ rfl
  have a7 := h 7 _ rfl
  have a8 := h 8 _ rfl
  have a9 := h 9 _ rfl
  have a10 := h 10 _ rfl
  have a11 := h 11 _ rfl
  have a12 := h 12 _ rfl
  have a13 := h 13 _ rfl
  have a14 := h 14 _ rfl
  exact ⟨a0, a1, a2, a3, a4, a5, a6, a7, a8, a9, a10, a11, a12, a13, a14⟩

theorem Im.shape {w : World} {t : Im} (h : t.ok w) : ∃ (pi : Option Addr) (ni ci : Nat) (pp : Option Addr) (np cp : Nat) (p1 : Option Addr) (n1 c1 : Nat) (p2 : Option Addr) (n2 c2 : Nat) (p3 : Option Addr) (n3 c3 : Nat) (p4 : Option Addr) (n4 c4 : Nat) (p5 : Option Addr) (n5 c5 : Nat), t.vi = .slice pi ni ci ∧ t.vp = .slice pp np cp ∧ t.v1 = .slice p1 n1 c1 ∧ t.v2 = .slice p2 n2 c2 ∧ t.v3 = .slice p3 n3 c3 ∧ t.v4 = .slice p4 n4 c4 ∧ t.v5 = .slice p5 n5 c5 := by
  obtain ⟨pi, ni, ci, ei⟩ : ∃ q n c, t.vi = .slice q n c := by obtain ⟨q, c, e, -, -⟩ := h.hi; exact ⟨_, _, _, e⟩
  obtain ⟨pp, np, cp, ep⟩ : ∃ q n c, t.vp = .slice q n c := by obtain ⟨q, c, e, -, -, -⟩ := h.hp; exact ⟨_, _, _, e⟩
  obtain ⟨p1, n1, c1, e1⟩ : ∃ q n c, t.v1 = .slice q n c := by obtain ⟨q, c, e, -, -⟩ := h.hv.s1; exact ⟨_, _, _, e⟩
  obtain ⟨p2, n2, c2, e2⟩ : ∃ q n c, t.v2 = .slice q n c := by obtain ⟨q, c, e, -, -⟩ := h.hv.s2; exact ⟨_, _, _, e⟩
  obtain ⟨p3, n3, c3, e3⟩ : ∃ q n c, t.v3 = .slice q n c := by obtain ⟨q, c, e, -, -⟩ := h.hv.s3; exact ⟨_, _, _, e⟩
  obtain ⟨p4, n4, c4, e4⟩ : ∃ q n c, t.v4 = .slice q n c := by obtain ⟨q, c, e, -, -⟩ := h.hv.s4; exact ⟨_, _, _, e⟩
  obtain ⟨p5, n5, c5, e5⟩ : ∃ q n c, t.v5 = .slice q n c := by obtain ⟨q, c, e, -, -⟩ := h.hv.s5; exact ⟨_, _, _, e⟩
  exact ⟨pi, ni, ci, pp, np, cp, p1, n1, c1, p2, n2, c2, p3, n3, c3, p4, n4, c4, p5, n5, c5, ei, ep, e1, e2, e3, e4, e5⟩
theorem Im.ok.same {w w' : World} {t : Im} (h : t.ok w) (hb : Below w.heap.size w w') : t.ok w' := h.below hb
/-- All blocks stay but these. -/
structure Keep (w w' : World) (F : List Nat) : Prop where
  os : w'.os = w.os
  tape : w'.tape = w.tape
  output : w'.output = w.output
  size : w.heap.size ≤ w'.heap.size
  block : ∀ k, k < w.heap.size → k ∉ F → w'.heap[k]? = w.heap[k]?
/-- What is listed was listed, or is new. -/
def Near (w : World) (F F' : List Nat) : Prop := ∀ k ∈ F', k ∈ F ∨ w.heap.size ≤ k
theorem Keep.below {w w' : World} {F : List Nat} {base : Nat} (h : Keep w w' F) (hF : ∀ k ∈ F, base ≤ k) (hb : base ≤ w.heap.size) : Below base w w' :=
  ⟨h.os, h.tape, h.output, h.size, fun k hk => h.block k (by omega) (fun e => by have := hF k e; omega)⟩

/-- What is asked of package mail: Bx w v ms F says that the box v holds these messages, in these blocks. -/
structure MailC (Bx : World → Value → List Ms → List Nat → Prop) : Prop where
  ptr : ∀ {w v ms F}, Bx w v ms F → ∃ a, v = .pointer (some a)
  lt : ∀ {w v ms F}, Bx w v ms F → ∀ k ∈ F, k < w.heap.size
  stay : ∀ {w w' v ms F}, Bx w v ms F → (∀ k ∈ F, w'.heap[k]? = w.heap[k]?) → Bx w' v ms F
  new : ∀ w, GlobM w → Calls Tryz.prog 9 #[] w fun e w' => (∃ v F, e = .returned v ∧ Bx w' v [] F ∧ ∀ k ∈ F, w.heap.size ≤ k) ∧ Below w.heap.size w w'
  put : ∀ w v ms F (t : Im), GlobM w → Bx w v ms F → Fine ms → t.ok w → (MRight t.m → Sml t.m) → Calls Tryz.prog 11 #[v, t.val] w fun e w' => (∃ c ms' F', e = .returned (.int .i64 c) ∧ PutR ms t.m c ms' ∧ Bx w' v ms' F' ∧ Near w F F') ∧ Keep w w' F
  take : ∀ w v ms F (n : Int), GlobM w → Bx w v ms F → Fine ms → -9223372036854775808 ≤ n ∧ n ≤ 9223372036854775807 → Calls Tryz.prog 13 #[v, .int .i64 n] w fun e w' => (∃ (t : Im) (b : Bool) (ms' : List Ms) (F' : List Nat), e = .returned (.tuple #[t.val, .bool b]) ∧ t.ok w' ∧ TakeR ms n b t.m ms' ∧ Bx w' v ms' F' ∧ Near w F F') ∧ Keep w w' F
  twice : ∀ w v ms F (n : Int), GlobM w → Bx w v ms F → Fine ms → -9223372036854775808 ≤ n ∧ n ≤ 9223372036854775807 → Calls Tryz.prog 16 #[v, .int .i64 n] w fun e w' => (∃ c ms' F', e = .returned (.int .i64 c) ∧ TwiceR ms n c ms' ∧ Bx w' v ms' F' ∧ Near w F F') ∧ Keep w w' F
  all : ∀ w v ms F, GlobM w → Bx w v ms F → Fine ms → Calls Tryz.prog 19 #[v] w fun e w' => (∃ u ts, e = .returned u ∧ MRow w' u ts ∧ ts.map Im.m = ms ∧ ∀ t ∈ ts, w'.ownsRow w.heap.size 9 1 t.vi t.ids.length (strV t.ids)) ∧ Below w.heap.size w w'
  many : ∀ w v ms F, GlobM w → Bx w v ms F → Fine ms → Calls Tryz.prog 20 #[v] w fun e w' => e = .returned (.agg #[.int .i64 (cnt 0 ms : Nat), .int .i64 (cnt 1 ms : Nat), .int .i64 (cnt 2 ms : Nat), .int .i64 (cnt 3 ms : Nat), .int .i64 (cnt 4 ms : Nat), .int .i64 (cnt 5 ms : Nat)]) ∧ Below w.heap.size w w'

/-- A box in blocks from B on. -/
def MBx (Bx : World → Value → List Ms → List Nat → Prop) (B : Nat) (w : World) (a : Addr) (ms : List Ms) : Prop := Fine ms ∧ ∃ F, Bx w (.pointer (some a)) ms F ∧ ∀ k ∈ F, B ≤ k
section
variable {Bx : World → Value → List Ms → List Nat → Prop}
theorem MBx.below (C : MailC Bx) {B : Nat} {w w' : World} {a : Addr} {ms : List Ms} (h : MBx Bx B w a ms) (hb : Below w.heap.size w w') : MBx Bx B w' a ms := by
  obtain ⟨h0, F, h1, h2⟩ := h
  exact ⟨h0, F, C.stay h1 (fun k hk => hb.block k (C.lt h1 k hk)), h2⟩
theorem near_base {w : World} {F F' : List Nat} {B : Nat} (h : Near w F F') (hF : ∀ k ∈ F, B ≤ k) (hB : B ≤ w.heap.size) : ∀ k ∈ F', B ≤ k := fun k hk => by
  rcases h k hk with h1 | h1
  · exact hF k h1
  · omega
theorem mnew_any (C : MailC Bx) (w : World) (hg : GlobM w) : Calls Tryz.prog 9 #[] w fun e w' => (∃ a, e = .returned (.pointer (some a)) ∧ MBx Bx w.heap.size w' a []) ∧ Below w.heap.size w w' := by
  refine (C.new w hg).mono ?_
  rintro e w' ⟨⟨v, F, rfl, h1, h2⟩, hb⟩
  obtain ⟨a, rfl⟩ := C.ptr h1
  exact ⟨⟨a, rfl, fine_nil, F, h1, h2⟩, hb⟩
theorem mput_any (C : MailC Bx) (B : Nat) (w : World) (a : Addr) (ms : List Ms) (t : Im) (hg : GlobM w) (hB : B ≤ w.heap.size) (h : MBx Bx B w a ms) (ht : t.ok w) (hs : MRight t.m → Sml t.m) : Calls Tryz.prog 11 #[.pointer (some a), t.val] w fun e w' => (∃ c ms', e = .returned (.int .i64 c) ∧ PutR ms t.m c ms' ∧ MBx Bx B w' a ms') ∧ Below B w w' := by
  obtain ⟨h0, F, h1, h2⟩ := h
  refine (C.put w _ ms F t hg h1 h0 ht hs).mono ?_
  rintro e w' ⟨⟨c, ms', F', rfl, hp, hx, hn⟩, hk⟩
  exact ⟨⟨c, ms', rfl, hp, hp.fine hs h0, F', hx, near_base hn h2 hB⟩, hk.below h2 hB⟩
theorem mtake_any (C : MailC Bx) (B : Nat) (w : World) (a : Addr) (ms : List Ms) (n : Int) (hg : GlobM w) (hB : B ≤ w.heap.size) (h : MBx Bx B w a ms) (hn : -9223372036854775808 ≤ n ∧ n ≤ 9223372036854775807) : Calls Tryz.prog 13 #[.pointer (some a), .int .i64 n] w fun e w' => (∃ (t : Im) (b : Bool) (ms' : List Ms), e = .returned (.tuple #[t.val, .bool b]) ∧ t.ok w' ∧ TakeR ms n b t.m ms' ∧ MBx Bx B w' a ms') ∧ Below B w w' := by
  obtain ⟨h0, F, h1, h2⟩ := h
  refine (C.take w _ ms F n hg h1 h0 hn).mono ?_
  rintro e w' ⟨⟨t, b, ms', F', rfl, ht, hp, hx, hn⟩, hk⟩
  exact ⟨⟨t, b, ms', rfl, ht, hp, hp.fine h0, F', hx, near_base hn h2 hB⟩, hk.below h2 hB⟩
theorem mtwice_any (C : MailC Bx) (B : Nat) (w : World) (a : Addr) (ms : List Ms) (n : Int) (hg : GlobM w) (hB : B ≤ w.heap.size) (h : MBx Bx B w a ms) (hn : -9223372036854775808 ≤ n ∧ n ≤ 9223372036854775807) : Calls Tryz.prog 16 #[.pointer (some a), .int .i64 n] w fun e w' => (∃ c ms', e = .returned (.int .i64 c) ∧ TwiceR ms n c ms' ∧ MBx Bx B w' a ms') ∧ Below B w w' := by
  obtain ⟨h0, F, h1, h2⟩ := h
  refine (C.twice w _ ms F n hg h1 h0 hn).mono ?_
  rintro e w' ⟨⟨c, ms', F', rfl, hp, hx, hn⟩, hk⟩
  exact ⟨⟨c, ms', rfl, hp, hp.fine h0, F', hx, near_base hn h2 hB⟩, hk.below h2 hB⟩
theorem mall_any (C : MailC Bx) (B : Nat) (w : World) (a : Addr) (ms : List Ms) (hg : GlobM w) (h : MBx Bx B w a ms) : Calls Tryz.prog 19 #[.pointer (some a)] w fun e w' => (∃ u ts, e = .returned u ∧ MRow w' u ts ∧ ts.map Im.m = ms ∧ MBx Bx B w' a ms) ∧ Below w.heap.size w w' := by
  have h' := h
  obtain ⟨h0, F, h1, h2⟩ := h
  refine (C.all w _ ms F hg h1 h0).mono ?_
  rintro e w' ⟨⟨u, ts, rfl, hr, hm, -⟩, hb⟩
  exact ⟨⟨u, ts, rfl, hr, hm, h'.below C hb⟩, hb⟩
theorem mmany_any (C : MailC Bx) (B : Nat) (w : World) (a : Addr) (ms : List Ms) (hg : GlobM w) (h : MBx Bx B w a ms) : Calls Tryz.prog 20 #[.pointer (some a)] w fun e w' => e = .returned (.agg #[.int .i64 (cnt 0 ms : Nat), .int .i64 (cnt 1 ms : Nat), .int .i64 (cnt 2 ms : Nat), .int .i64 (cnt 3 ms : Nat), .int .i64 (cnt 4 ms : Nat), .int .i64 (cnt 5 ms : Nat)]) ∧ Below w.heap.size w w' := by
  obtain ⟨h0, F, h1, h2⟩ := h
  exact C.many w _ ms F hg h1 h0
end
/-- A message without lists. -/
abbrev bare (m : Ms) : Im := ⟨m, .slice none 0 0, .slice none 0 0, .slice none 0 0, .slice none 0 0, .slice none 0 0, .slice none 0 0, .slice none 0 0, [], [], [], [], [], [], []⟩
theorem postRow_nil (w : World) : PostRow w (.slice none 0 0) [] := ⟨none, 0, rfl, Nat.le_refl _, fun _ => rfl, fun i a b h => by simp at h⟩
theorem ack_ok {w : World} (f t e : Int) (hg : GlobM w) : (bare (ackM f t e)).ok w :=
  ⟨strArg_nil w, postRow_nil w, PolV.zero w hg.1, rfl, rfl, fits_zero, by simp, by simp⟩

set_option maxRecDepth 100000 in
set_option maxHeartbeats 4000000 in
theorem ack_any (f t e : Int) (w : World) :
    Calls Tryz.prog 22 #[.int .i64 f, .int .i64 t, .int .i64 e] w fun x w' => x = .returned (bare (ackM f t e)).val ∧ Below w.heap.size w w' := by
  go_enter Tryz.func22, Tryz.ntmps22
  go_wp2_with fail
  refine bodyPost_ret (results_cell_row rfl _ _ w.heap.size 35 (bare (ackM f t e)).cells.toArray (0, 0) _ rfl (new_block w _ _) Tryz.underlying35 rfl (by kernel_rfl)) rfl ?_
  exact ⟨rfl, (Below.refl _ _).alloc (Nat.le_refl _) _⟩
end Go.Proofs.YtmogplecohkjcaaGreatDoor

namespace Go.Proofs.YtmogplecohkjcaaGreatDoor
open Go.RowKit

theorem all_ints : ∀ (xs ys : List Int), xs.length = ys.length → ((List.range xs.length).all fun i => xs.getD i 0 == ys.getD i 0) = (xs == ys)
  | [], [], _ => rfl
  | x :: xs, y :: ys, h => by
    have ih := all_ints xs ys (by simpa using h)
    rw [List.length_cons, List.range_succ_eq_map, List.all_cons, List.all_map]
    simp only [List.getD_cons_zero, Function.comp_def, List.getD_cons_succ, ih]
    simp [List.cons_beq_cons]
  | [], _ :: _, h => by simp at h
  | _ :: _, [], h => by simp at h
theorem run_equalIn_ints {P : Program} (w : World) (d : Nat) (t e : TypeId) (n : Nat) (ht : P.underlying t = some (.array n e)) (he : P.underlying e = some (.int .i64)) (hsz : ∀ w, (sizeOf e).run P w = .ok 1 w)
    (xs ys : List Int) (hx : xs.length = n) (hy : ys.length = n) :
    (Op.equalIn (d + 2) t (.agg (xs.map (Value.int .i64)).toArray) (.agg (ys.map (Value.int .i64)).toArray)).run P w = .ok (xs == ys) w := by
  rw [← all_ints xs ys (hx.trans hy.symm), hx, List.range_eq_range', Op.equalIn]
  simp only [Sem.run_bind, run_underlying ht, Result.andThen_ok, hsz, Std.Legacy.Range.forIn_eq_forIn_range', Std.Legacy.Range.size, Nat.sub_zero, Nat.add_sub_cancel, Nat.div_one]
  have hl : ∀ i ∈ List.range' 0 n 1, i < n := fun i hi => by simpa using (List.mem_range'_1.1 hi).2
  generalize List.range' 0 n 1 = l at hl ⊢
  induction l with
  | nil => simp
  | cons i l ih =>
    have hi : i < n := hl i (by simp)
    have px : (part e (xs.map (Value.int .i64)).toArray (i * 1)).run P w = .ok (Value.int .i64 (xs.getD i 0)) w := by
      simp [part, isAgg, run_underlying he, List.getD, List.getElem?_eq_getElem (show i < xs.length by omega)]
    have py : (part e (ys.map (Value.int .i64)).toArray (i * 1)).run P w = .ok (Value.int .i64 (ys.getD i 0)) w := by
      simp [part, isAgg, run_underlying he, List.getD, List.getElem?_eq_getElem (show i < ys.length by omega)]
    have pe : (Op.equalIn (d + 1) e (Value.int .i64 (xs.getD i 0)) (Value.int .i64 (ys.getD i 0))).run P w = .ok (xs.getD i 0 == ys.getD i 0) w := by
      rw [run_equalIn_int w d e .i64 .i64 _ _ he]
    simp only [List.forIn_cons, Sem.run_bind, px, py, pe, Result.andThen_ok, List.all_cons]
    cases hb : (xs.getD i 0 == ys.getD i 0)
    · simp
    · simp only [Bool.not_true, Bool.false_eq_true, if_false, Sem.run_pure, Result.andThen_ok, Bool.true_and]
      exact ih fun j hj => hl j (by simp [hj])
/-- Two arrays of six numbers are the same just if each of their numbers is. -/
theorem six_eql (a0 a1 a2 a3 a4 a5 b0 b1 b2 b3 b4 b5 : Int) (w : World) :
    (binOp .eql 47 (.agg #[.int .i64 a0, .int .i64 a1, .int .i64 a2, .int .i64 a3, .int .i64 a4, .int .i64 a5]) (.agg #[.int .i64 b0, .int .i64 b1, .int .i64 b2, .int .i64 b3, .int .i64 b4, .int .i64 b5])).run Tryz.prog w = .ok (.bool (decide (a0 = b0 ∧ a1 = b1 ∧ a2 = b2 ∧ a3 = b3 ∧ a4 = b4 ∧ a5 = b5))) w := by
  have h := run_equalIn_ints w 9998 47 3 6 Tryz.underlying47 Tryz.underlying3 (fun w => by
    obtain ⟨i, hi⟩ : ∃ i, Tryz.prog.info? 3 = some i := Option.isSome_iff_exists.1 (by kernel_rfl)
    exact (run_sizeOf w hi).trans (by rw [show Tryz.prog.cellsOf 3 = 1 from by kernel_rfl])) [a0, a1, a2, a3, a4, a5] [b0, b1, b2, b3, b4, b5] rfl rfl
  rw [run_eql_struct]
  have e : ([a0, a1, a2, a3, a4, a5] == [b0, b1, b2, b3, b4, b5]) = decide (a0 = b0 ∧ a1 = b1 ∧ a2 = b2 ∧ a3 = b3 ∧ a4 = b4 ∧ a5 = b5) := by
    rw [Bool.eq_iff_iff]
    simp
  rw [e] at h
  have h2 : (Op.equalIn 10000 47 (.agg #[.int .i64 a0, .int .i64 a1, .int .i64 a2, .int .i64 a3, .int .i64 a4, .int .i64 a5]) (.agg #[.int .i64 b0, .int .i64 b1, .int .i64 b2, .int .i64 b3, .int .i64 b4, .int .i64 b5])).run Tryz.prog w = _ := h
  rw [h2]
  rfl
end Go.Proofs.YtmogplecohkjcaaGreatDoor

namespace Go.Proofs.YtmogplecohkjcaaGreatDoor
open Go.RowKit
open Utf1
open Pol8 hiding text right Right
open Msg15 Mail17

theorem put_ok {ms : List Ms} {m : Ms} {c : Int} {a : List Ms} (h : PutR ms m c a) (hr : MRight m) (hc : cnt m.to ms < 16) : c = 0 ∧ a = ms ++ [m] :=
  h.one (.inr (.inr ⟨hr, hc, rfl, rfl⟩))
theorem put_full {ms : List Ms} {m : Ms} {c : Int} {a : List Ms} (h : PutR ms m c a) (hr : MRight m) (hc : 16 ≤ cnt m.to ms) : c = 10 ∧ a = ms :=
  h.one (.inr (.inl ⟨hr, hc, rfl, rfl⟩))
theorem take_ok {ms : List Ms} {k : Nat} {b : Bool} {m x : Ms} {a : List Ms} (h : TakeR ms (k : Int) b m a) (hk : ms[k]? = some x) : b = true ∧ m = x ∧ a = ms.eraseIdx k :=
  h.one (.inr ⟨rfl, k, rfl, hk, rfl⟩)
theorem take_none {ms : List Ms} {n : Int} {b : Bool} {m : Ms} {a : List Ms} (h : TakeR ms n b m a) (hk : n < 0 ∨ (ms.length : Int) ≤ n) : b = false ∧ m = Ms.zero ∧ a = ms :=
  h.one (.inl ⟨rfl, rfl, rfl, hk⟩)
theorem twice_ok {ms : List Ms} {k : Nat} {m : Ms} {c : Int} {a : List Ms} (h : TwiceR ms (k : Int) c a) (hk : ms[k]? = some m) (hr : MRight m) (hc : cnt m.to ms < 16) : c = 0 ∧ a = ms ++ [m] :=
  h.one (.inr ⟨k, m, rfl, hk, .inr (.inr ⟨hr, hc, rfl, rfl⟩)⟩)
/-- A box in blocks from B on, and not in this one. -/
def MBq (Bx : World → Value → List Ms → List Nat → Prop) (B q : Nat) (w : World) (a : Addr) (ms : List Ms) : Prop := Fine ms ∧ q < w.heap.size ∧ ∃ F, Bx w (.pointer (some a)) ms F ∧ ∀ k ∈ F, B ≤ k ∧ k ≠ q
section
variable {Bx : World → Value → List Ms → List Nat → Prop}
theorem MBq.box {B q : Nat} {w : World} {a : Addr} {ms : List Ms} (h : MBq Bx B q w a ms) : MBx Bx B w a ms := by
  obtain ⟨h0, -, F, h1, h2⟩ := h
  exact ⟨h0, F, h1, fun k hk => (h2 k hk).1⟩
theorem MBx.fence (C : MailC Bx) {B : Nat} {w : World} {a : Addr} {ms : List Ms} (h : MBx Bx B w a ms) (o : Obj) : MBq Bx B w.heap.size (w.alloc o) a ms := by
  obtain ⟨h0, F, h1, h2⟩ := h
  have hb : Below w.heap.size w (w.alloc o) := bel_alloc (Below.refl _ _) o
  refine ⟨h0, by simp, F, C.stay h1 (fun k hk => hb.block k (C.lt h1 k hk)), fun k hk => ⟨h2 k hk, fun e => ?_⟩⟩
  have := C.lt h1 k hk
  omega
theorem mtakeq_any (C : MailC Bx) (B q : Nat) (w : World) (a : Addr) (ms : List Ms) (n : Int) (hg : GlobM w) (hB : B ≤ w.heap.size) (h : MBq Bx B q w a ms) (hn : -9223372036854775808 ≤ n ∧ n ≤ 9223372036854775807) : Calls Tryz.prog 13 #[.pointer (some a), .int .i64 n] w fun e w' => (∃ (t : Im) (b : Bool) (ms' : List Ms), e = .returned (.tuple #[t.val, .bool b]) ∧ t.ok w' ∧ TakeR ms n b t.m ms' ∧ MBx Bx B w' a ms' ∧ w'.heap[q]? = w.heap[q]?) ∧ Below B w w' := by
  obtain ⟨h0, hq, F, h1, h2⟩ := h
  refine (C.take w _ ms F n hg h1 h0 hn).mono ?_
  rintro e w' ⟨⟨t, b, ms', F', rfl, ht, hp, hx, hn⟩, hk⟩
  exact ⟨⟨t, b, ms', rfl, ht, hp, ⟨hp.fine h0, F', hx, near_base hn (fun k hk => (h2 k hk).1) hB⟩, hk.block q hq (fun e => (h2 q e).2 rfl)⟩, hk.below (fun k hk => (h2 k hk).1) hB⟩
end
abbrev aw7 : Ms := ackM 2 1 7
theorem aw7_right : MRight aw7 := ackM_right (by decide) (by decide) (by decide) (by decide)

set_option maxRecDepth 100000 in
set_option maxHeartbeats 8000000 in
theorem mawake_any {Bx : World → Value → List Ms → List Nat → Prop} (C : MailC Bx) (w : World) (hg : GlobM w) :
    Calls Tryz.prog 8 #[] w fun e w' => e = .returned (.bool true) ∧ Below w.heap.size w w' := by
  have HG := hide hg
  have HC := hide C
  have CN := hide (mnew_any C w hg)
  clear C hg
  go_enter Tryz.func8, Tryz.ntmps8
  go_wp2_with fail
  refine CN.out.mono ?_
  rintro e w1 ⟨⟨a, rfl, hx1⟩, hb1⟩
  have X1 := hide hx1
  have B1 := hide hb1
  clear hx1 hb1 CN
  go_wp2_with fail
  refine (ack_any 2 1 7 w1).mono ?_
  rintro e w2 ⟨rfl, hb2⟩
  have B2 := hide (bel2 B1.out hb2)
  have X2 := hide (X1.out.below HC.out hb2)
  clear hb2 X1 B1
  have CP := hide (mput_any HC.out w.heap.size w2 a [] (bare aw7) (HG.out.below B2.out) B2.out.size X2.out (ack_ok 2 1 7 (HG.out.below B2.out)) ackM_sml)
  go_wp2_with fail
  refine CP.out.mono ?_
  rintro e w3 ⟨⟨c, ms3, rfl, hp, hx3⟩, hb3⟩
  obtain ⟨rfl, rfl⟩ := put_ok hp aw7_right (by decide)
  have B3 := hide (B2.out.trans hb3)
  have X3 := hide hx3
  clear hp hx3 hb3 CP X2 B2
  have CT := hide (mtwice_any HC.out w.heap.size w3 a [aw7] 0 (HG.out.below B3.out) B3.out.size X3.out (by decide))
  go_wp2_with fail
  refine CT.out.mono ?_
  rintro e w4 ⟨⟨c, ms4, rfl, hp, hx4⟩, hb4⟩
  obtain ⟨rfl, rfl⟩ := twice_ok (k := 0) hp rfl aw7_right (by decide)
  have B4 := hide (B3.out.trans hb4)
  have X4 := hide hx4
  clear hp hx4 hb4 CT X3 B3
  have CK := hide (mtake_any HC.out w.heap.size w4 a [aw7, aw7] 0 (HG.out.below B4.out) B4.out.size X4.out (by decide))
  go_wp2_with fail
  refine CK.out.mono ?_
  rintro e w5 ⟨⟨t, b, ms5, rfl, ht, hp, hx5⟩, hb5⟩
  obtain ⟨rfl, hm, rfl⟩ := take_ok (k := 0) hp rfl
  have B5 := hide (B4.out.trans hb5)
  have X5 := hide hx5
  obtain ⟨pi, ni, ci, pp, np, cp, p1, n1, c1, p2, n2, c2, p3, n3, c3, p4, n4, c4, p5, n5, c5, ei, ep, e1, e2, e3, e4, e5⟩ := Im.shape ht
  obtain ⟨m, vi, vp, v1, v2, v3, v4, v5, ids, ts, l1, l2, l3, l4, l5⟩ := t
  obtain rfl : m = aw7 := hm
  dsimp only at ei ep e1 e2 e3 e4 e5
  subst ei ep e1 e2 e3 e4 e5
  dsimp only [Im.val, aw7, ackM, Pol.zero]
  clear hp hx5 hb5 ht CK X4 B4
  have X6 : Hid (∀ o, MBx Bx w.heap.size (w5.alloc o) a [aw7]) := hide (fun o => X5.out.below HC.out (bel_alloc (Below.refl _ _) o))
  have B6 : Hid (∀ o, Below w.heap.size w (w5.alloc o)) := hide (fun o => B5.out.alloc B5.out.size o)
  go_wp2_with fail
  refine (mall_any HC.out w.heap.size _ a [aw7] (HG.out.below (B6.out _)) (X6.out _)).mono ?_
  rintro e w6 ⟨⟨u, ts, rfl, hr, hm, hx6⟩, hb6⟩
  obtain ⟨q, c, rfl, -⟩ := hr.shape
  have hlen : ts.length = 1 := by
    have := congrArg List.length hm
    simpa using this
  rw [hlen]
  have B7 := hide (bel2 (B6.out _) hb6)
  have CM : Hid (Calls Tryz.prog 20 #[.pointer (some a)] w6 fun e w' => e = .returned (.agg #[.int .i64 0, .int .i64 1, .int .i64 0, .int .i64 0, .int .i64 0, .int .i64 0]) ∧ Below w6.heap.size w6 w') := hide (mmany_any HC.out w.heap.size w6 a [aw7] (HG.out.below B7.out) hx6)
  clear hr hm hx6 hb6 X5 X6 B5 B6 hlen
  go_wp2_with fail
  refine CM.out.mono ?_
  rintro e w7 ⟨rfl, hb7⟩
  have B8 := hide (bel2 B7.out hb7)
  clear hb7 CM B7
  have hq := fun wx => six_eql 0 1 0 0 0 0 0 1 0 0 0 0 wx
  go_wp2_with fail
  go_ret
  exact ⟨rfl, B8.out⟩
end Go.Proofs.YtmogplecohkjcaaGreatDoor

namespace Go.Proofs.YtmogplecohkjcaaGreatDoor
open Go.RowKit
open Utf1
open Pol8 hiding text right Right
open Msg15 Mail17

/-- A box in blocks from B on, and not in these. -/
def MBl (Bx : World → Value → List Ms → List Nat → Prop) (B : Nat) (Q : List Nat) (w : World) (a : Addr) (ms : List Ms) : Prop := Fine ms ∧ (∀ q ∈ Q, q < w.heap.size) ∧ ∃ F, Bx w (.pointer (some a)) ms F ∧ ∀ k ∈ F, B ≤ k ∧ k ∉ Q
section
variable {Bx : World → Value → List Ms → List Nat → Prop}
theorem MBl.box {B : Nat} {Q : List Nat} {w : World} {a : Addr} {ms : List Ms} (h : MBl Bx B Q w a ms) : MBx Bx B w a ms := by
  obtain ⟨h0, -, F, h1, h2⟩ := h
  exact ⟨h0, F, h1, fun k hk => (h2 k hk).1⟩
theorem MBx.apart (C : MailC Bx) {B : Nat} {Q : List Nat} {w w' : World} {a : Addr} {ms : List Ms} (h : MBx Bx B w a ms) (hb : Below w.heap.size w w') (hQ : ∀ q ∈ Q, w.heap.size ≤ q ∧ q < w'.heap.size) : MBl Bx B Q w' a ms := by
  obtain ⟨h0, F, h1, h2⟩ := h
  refine ⟨h0, fun q hq => (hQ q hq).2, F, C.stay h1 (fun k hk => hb.block k (C.lt h1 k hk)), fun k hk => ⟨h2 k hk, fun e => ?_⟩⟩
  have := C.lt h1 k hk
  have := (hQ k e).1
  omega
theorem MBl.below (C : MailC Bx) {B : Nat} {Q : List Nat} {w w' : World} {a : Addr} {ms : List Ms} (h : MBl Bx B Q w a ms) (hb : Below w.heap.size w w') : MBl Bx B Q w' a ms := by
  obtain ⟨h0, hq, F, h1, h2⟩ := h
  exact ⟨h0, fun q k => Nat.lt_of_lt_of_le (hq q k) hb.size, F, C.stay h1 (fun k hk => hb.block k (C.lt h1 k hk)), h2⟩
theorem MBl.set (C : MailC Bx) {B : Nat} {Q : List Nat} {w : World} {a : Addr} {ms : List Ms} (h : MBl Bx B Q w a ms) {p : Addr} (hp : p.block ∈ Q) (u : Value) : MBl Bx B Q (w.setCell p u) a ms := by
  obtain ⟨h0, hq, F, h1, h2⟩ := h
  refine ⟨h0, fun q k => by have := hq q k; simpa [World.setCell] using this, F, C.stay h1 (fun k hk => Below.heap_setCell _ _ _ _ (fun e => (h2 k hk).2 (by rw [e]; exact hp))), h2⟩
theorem mputl_any (C : MailC Bx) (B : Nat) (Q : List Nat) (w : World) (a : Addr) (ms : List Ms) (t : Im) (hg : GlobM w) (hB : B ≤ w.heap.size) (h : MBl Bx B Q w a ms) (ht : t.ok w) (hs : MRight t.m → Sml t.m) : Calls Tryz.prog 11 #[.pointer (some a), t.val] w fun e w' => (∃ c ms', e = .returned (.int .i64 c) ∧ PutR ms t.m c ms' ∧ MBl Bx B Q w' a ms' ∧ ∀ q ∈ Q, w'.heap[q]? = w.heap[q]?) ∧ Below B w w' := by
  obtain ⟨h0, hq, F, h1, h2⟩ := h
  refine (C.put w _ ms F t hg h1 h0 ht hs).mono ?_
  rintro e w' ⟨⟨c, ms', F', rfl, hp, hx, hn⟩, hk⟩
  refine ⟨⟨c, ms', rfl, hp, ⟨hp.fine hs h0, fun q k => Nat.lt_of_lt_of_le (hq q k) hk.size, F', hx, fun k hf => ?_⟩, fun q k => hk.block q (hq q k) (fun e => (h2 q e).2 k)⟩, hk.below (fun k hk => (h2 k hk).1) hB⟩
  rcases hn k hf with h | h
  · exact h2 k h
  · exact ⟨by omega, fun e => by have := hq k e; omega⟩
/-- All that is told is in blocks of its own. -/
theorem mallo_any (C : MailC Bx) (B : Nat) (w : World) (a : Addr) (ms : List Ms) (hg : GlobM w) (h : MBx Bx B w a ms) : Calls Tryz.prog 19 #[.pointer (some a)] w fun e w' => (∃ u ts, e = .returned u ∧ MRow w' u ts ∧ ts.map Im.m = ms ∧ MBx Bx B w a ms ∧ ∀ t ∈ ts, w'.ownsRow w.heap.size 9 1 t.vi t.ids.length (strV t.ids)) ∧ Below w.heap.size w w' := by
  have h' := h
  obtain ⟨h0, F, h1, h2⟩ := h
  refine (C.all w _ ms F hg h1 h0).mono ?_
  rintro e w' ⟨⟨u, ts, rfl, hr, hm, ho⟩, hb⟩
  exact ⟨⟨u, ts, rfl, hr, hm, h', ho⟩, hb⟩
end

theorem minfoStr : (Tryz.prog.info? 9).map (fun i => (i.zero, i.size, i.bytes)) = some (some (.string ⟨#[]⟩), 1, 16) := by kernel_rfl
set_option maxRecDepth 100000 in
/-- Strings behind a row of one's own. -/
theorem bappend_strs {w : World} {ops : Array Oper} {rest : List Oper} {o : Oper} {a : Act} {Q : Exit → Act → World → Prop} (hgd : o.guard = none) (s x : Operand)
    (ho : o.op = .call { callee := .builtin .append, args := #[s, x], argTypes := #[30, 30] })
    (base : Nat) (v : Value) (n : Nat) (xs : List ByteArray) (hs : a.eval s = v) (hown : w.ownsRow base 9 1 v n (strV xs))
    (u : Value) (l : List ByteArray) (hx : a.eval x = u) (hl : StrArg w u l) (h63 : (n + l.length) * 16 ≤ 140737488355328) (hbase : base ≤ w.heap.size)
    (h : ∀ v' w', w'.ownsRow base 9 1 v' (n + l.length) (strV (xs ++ l)) → w.grownBy w' v.ownBlock → wpList Tryz.prog ops Q rest (a.put o.dst v') w') : wpList Tryz.prog ops Q (o :: rest) a w := by
  obtain ⟨i0, hi, hz0, hz1, hz2⟩ : ∃ i : TypeInfo, Tryz.prog.info? 9 = some i ∧ i.zero = some (.string ⟨#[]⟩) ∧ i.size = 1 ∧ i.bytes = 16 := by
    have h := minfoStr
    cases hi : Tryz.prog.info? 9 with
    | none => rw [hi] at h; simp at h
    | some i =>
      rw [hi] at h
      simp at h
      exact ⟨i, rfl, h.1, h.2.1, h.2.2⟩
  obtain ⟨p, cap, rfl, h0, hc⟩ := hl
  cases p with
  | none =>
    have hl0 : l = [] := by
      cases l with
      | nil => rfl
      | cons y l =>
        obtain ⟨_, _, e, _⟩ := hc 0 y rfl
        cases e
    subst hl0
    rw [h0 rfl] at hx
    refine wpList_append_own_none hgd s x 30 ho base 9 i0 1 Tryz.underlying30 hi v n _ hs hown hx ?_
    refine h v w ?_ ⟨rfl, rfl, rfl, Nat.le_refl _, fun _ _ _ => rfl⟩
    rw [List.append_nil]
    exact hown
  | some ad =>
    refine wpList_append_own w hgd s x 30 ho base 9 i0 _ 1 16 Tryz.underlying30 hi hz0 hz1 hz2 rfl (by decide) v n _ hs hown ad l.length cap (strV l) hx (by rw [strV_len, Nat.mul_one]) (fun j u hj => ?_) (fun y hy => ?_) (by unfold maxLen; omega) (by omega) hbase fun v' w' h1 h2 _ => h v' w' ?_ h2
    · unfold strV at hj
      rw [List.getElem?_map] at hj
      cases hlj : l[j]? with
      | none => rw [hlj] at hj; cases hj
      | some y =>
        rw [hlj] at hj
        obtain ⟨b, off, e, hcell⟩ := hc j y hlj
        injection e with e
        subst e
        rw [add_plain, hcell]
        exact hj
    · unfold strV at hy
      obtain ⟨z, _, rfl⟩ := List.mem_map.1 hy
      rfl
    · rw [strV_app]
      exact h1
theorem bown_empty (w : World) (base : Nat) (h : base ≤ w.heap.size) : (w.alloc (.cells #[] 9)).ownsRow base 9 1 (.slice (some ⟨w.heap.size, 0, none⟩) 0 0) 0 (strV []) :=
  World.ownsRow_made w _ 0 h (by decide) rfl
end Go.Proofs.YtmogplecohkjcaaGreatDoor
